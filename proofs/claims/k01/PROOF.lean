import PyProof.Rows.All
import Wide.All
import OpenK.AllK
import Wide.FinOn
import HandS.ForMost
import HandS.Wide
import HandS.IsInst
import HandS.EndBits
import HandS.Evl
import HandS.Star
import PySem.Challenge.RW_allonge_k01_names
set_option Elab.async false
set_option linter.all false
set_option maxRecDepth 100000
set_option maxHeartbeats 4000000

namespace Gd
open PySem L2

/-! ### data heaps -/
def Sb (G H : Hp) : Prop := ∀ a o, G a = some o → H a = some o
theorem Sb.refl (H : Hp) : Sb H H := fun _ _ h => h
theorem Sb.trans {A B C : Hp} (x : Sb A B) (y : Sb B C) : Sb A C := fun a o h => y a o (x a o h)
theorem Sb.new {G : Hp} {p : Addr} {o : HO} (h : G p = none) : Sb G (upd G p o) := fun a u e => by
  rw [upd_ne (ne_of_none e h)]; exact e
theorem Sb.both {G H : Hp} {p : Addr} {o : HO} (s : Sb G H) : Sb (upd G p o) (upd H p o) := fun a u e => by
  by_cases h : a = p
  · subst h; rw [upd_same] at e ⊢; exact e
  · rw [upd_ne h] at e ⊢; exact s a u e
theorem Sb.add {G H : Hp} {p : Addr} {o : HO} (s : Sb G H) (h : H p = some o) : Sb (upd G p o) H := fun a u e => by
  by_cases q : a = p
  · subst q; rw [upd_same] at e; rw [h]; exact e
  · rw [upd_ne q] at e; exact s a u e
theorem Sb.mut {G H : Hp} {p : Addr} {o : HO} (s : Sb G H) (h : G p = none) : Sb G (upd H p o) := fun a u e => by
  rw [upd_ne (ne_of_none e h)]; exact s a u e
theorem Sb.none {G H : Hp} {p : Addr} (s : Sb G H) (h : H p = none) : G p = none := by
  cases q : G p with
  | none => rfl
  | some o => rw [s p o q] at h; cases h

mutual
inductive Dx (G : Hp) : V → PyData → Prop
  | non : Dx G .non .none
  | bl (b : Bool) : Dx G (.bl b) (.bool b)
  | int (i : Int) : Dx G (.int i) (.int i)
  | str (x : Str) : Dx G (.str x) (.str x)
  | lst {a : Addr} {xs : List V} {ds : List PyData} : G a = some (.lst xs) → Dxs G xs ds → Dx G (.ref a) (.list ds)
  | tup {a : Addr} {xs : List V} {ds : List PyData} : G a = some (.tup xs) → Dxs G xs ds → Dx G (.ref a) (.tuple ds)
inductive Dxs (G : Hp) : List V → List PyData → Prop
  | nil : Dxs G [] []
  | cons {v : V} {vs : List V} {d : PyData} {ds : List PyData} : Dx G v d → Dxs G vs ds → Dxs G (v :: vs) (d :: ds)
end
mutual
theorem Dx.mono {G H : Hp} (s : Sb G H) : ∀ {v : V} {d : PyData}, Dx G v d → Dx H v d
  | _, _, .non => .non
  | _, _, .bl b => .bl b
  | _, _, .int i => .int i
  | _, _, .str x => .str x
  | _, _, .lst h a => .lst (s _ _ h) (Dxs.mono s a)
  | _, _, .tup h a => .tup (s _ _ h) (Dxs.mono s a)
theorem Dxs.mono {G H : Hp} (s : Sb G H) : ∀ {vs : List V} {ds : List PyData}, Dxs G vs ds → Dxs H vs ds
  | _, _, .nil => .nil
  | _, _, .cons h t => .cons (Dx.mono s h) (Dxs.mono s t)
end
mutual
theorem Dx.dp {K : PySem.W.Frag} {G : Hp} : ∀ {v : V} {d : PyData}, Dx G v d → Dp K G v d
  | _, _, .non => .non
  | _, _, .bl b => .bl b
  | _, _, .int i => .int i
  | _, _, .str x => .str x
  | _, _, .lst h a => .lst (Or.inl (Or.inl h)) (Dxs.dp a)
  | _, _, .tup h a => .tup (Or.inl (Or.inl h)) (Dxs.dp a)
theorem Dxs.dp {K : PySem.W.Frag} {G : Hp} : ∀ {vs : List V} {ds : List PyData}, Dxs G vs ds → DpAll K G vs ds
  | _, _, .nil => .nil
  | _, _, .cons h t => .cons (Dx.dp h) (Dxs.dp t)
end
theorem Dx.int_eq {G : Hp} {v : V} {i : Int} (h : Dx G v (.int i)) : v = .int i := by cases h; rfl
theorem Dx.bl_eq {G : Hp} {v : V} {b : Bool} (h : Dx G v (.bool b)) : v = .bl b := by cases h; rfl
theorem Dx.str_eq {G : Hp} {v : V} {z : Str} (h : Dx G v (.str z)) : v = .str z := by cases h; rfl
theorem Dx.non_eq {G : Hp} {v : V} (h : Dx G v .none) : v = .non := by cases h; rfl
theorem Dx.lst_eq {G : Hp} {v : V} {ds : List PyData} (h : Dx G v (.list ds)) : ∃ a xs, v = .ref a ∧ G a = some (.lst xs) ∧ Dxs G xs ds := by
  cases h with | lst h a => exact ⟨_, _, rfl, h, a⟩
theorem Dx.tup_eq {G : Hp} {v : V} {ds : List PyData} (h : Dx G v (.tuple ds)) : ∃ a xs, v = .ref a ∧ G a = some (.tup xs) ∧ Dxs G xs ds := by
  cases h with | tup h a => exact ⟨_, _, rfl, h, a⟩
theorem Dxs.len {G : Hp} : ∀ {vs : List V} {ds : List PyData}, Dxs G vs ds → vs.length = ds.length
  | _, _, .nil => rfl
  | _, _, .cons _ t => congrArg (· + 1) (Dxs.len t)
theorem Dxs.get {G : Hp} : ∀ {vs : List V} {ds : List PyData} {i : Nat} {d : PyData}, Dxs G vs ds → ds[i]? = some d → ∃ v, vs[i]? = some v ∧ Dx G v d
  | _, _, 0, _, .cons h _, e => by cases e; exact ⟨_, rfl, h⟩
  | _, _, i + 1, _, .cons _ t, e => Dxs.get (i := i) t e
theorem Dxs.getV {G : Hp} : ∀ {vs : List V} {ds : List PyData} {i : Nat} {v : V}, Dxs G vs ds → vs[i]? = some v → ∃ d, ds[i]? = some d ∧ Dx G v d
  | _, _, 0, _, .cons h _, e => by cases e; exact ⟨_, rfl, h⟩
  | _, _, i + 1, _, .cons _ t, e => Dxs.getV (i := i) t e
theorem Dxs.app {G : Hp} : ∀ {vs ws : List V} {ds es : List PyData}, Dxs G vs ds → Dxs G ws es → Dxs G (vs ++ ws) (ds ++ es)
  | _, _, _, _, .nil, t => t
  | _, _, _, _, .cons h t, u => .cons h (Dxs.app t u)
theorem Dxs.one {G : Hp} {v : V} {d : PyData} (h : Dx G v d) : Dxs G [v] [d] := .cons h .nil
theorem Dxs.take {G : Hp} : ∀ {vs : List V} {ds : List PyData} (n : Nat), Dxs G vs ds → Dxs G (vs.take n) (ds.take n)
  | _, _, 0, _ => .nil
  | _, _, _ + 1, .nil => .nil
  | _, _, n + 1, .cons h t => .cons h (Dxs.take n t)
theorem Dxs.drop {G : Hp} : ∀ {vs : List V} {ds : List PyData} (n : Nat), Dxs G vs ds → Dxs G (vs.drop n) (ds.drop n)
  | _, _, 0, h => h
  | _, _, _ + 1, .nil => .nil
  | _, _, n + 1, .cons _ t => Dxs.drop n t
theorem Dxs.ints {G : Hp} : ∀ (ns : List Int), Dxs G (ns.map V.int) (ns.map PyData.int)
  | [] => .nil
  | n :: r => .cons (.int n) (Dxs.ints r)
theorem Dxs.ints_eq {G : Hp} : ∀ {vs : List V} {ns : List Int}, Dxs G vs (ns.map PyData.int) → vs = ns.map V.int
  | _, [], .nil => rfl
  | _, n :: r, .cons h t => by rw [Dx.int_eq h, Dxs.ints_eq t]; rfl
theorem Dxs.bls_eq {G : Hp} : ∀ {vs : List V} {bs : List Bool}, Dxs G vs (bs.map PyData.bool) → vs = bs.map V.bl
  | _, [], .nil => rfl
  | _, n :: r, .cons h t => by rw [Dx.bl_eq h, Dxs.bls_eq t]; rfl
theorem Dxs.strs_eq {G : Hp} : ∀ {vs : List V} {zs : List Str}, Dxs G vs (zs.map PyData.str) → vs = zs.map V.str
  | _, [], .nil => rfl
  | _, n :: r, .cons h t => by rw [Dx.str_eq h, Dxs.strs_eq t]; rfl

/-! ### growing: G within H, M may change -/
structure Gr (M : List Addr) (G H G' H' : Hp) : Prop where
  g : Sb G G'
  s : Sb G' H'
  h : ∀ a o, a ∉ M → H a = some o → H' a = some o
  t : ∀ a o, H a = some o → ∃ o', H' a = some o'
  n : ∀ a o, H a = some o → G a = none → G' a = none
theorem Gr.refl {M : List Addr} {G H : Hp} (s : Sb G H) : Gr M G H G H := ⟨Sb.refl G, s, fun _ _ _ h => h, fun _ o h => ⟨o, h⟩, fun _ _ _ h => h⟩
theorem Gr.trans {M : List Addr} {G H G1 H1 G2 H2 : Hp} (x : Gr M G H G1 H1) (y : Gr M G1 H1 G2 H2) : Gr M G H G2 H2 :=
  ⟨x.g.trans y.g, y.s, fun a o m e => y.h a o m (x.h a o m e), fun a o e => by obtain ⟨o', e'⟩ := x.t a o e; exact y.t a o' e',
   fun a o e e0 => by obtain ⟨o', e'⟩ := x.t a o e; exact y.n a o' e' (x.n a o e e0)⟩
theorem Gr.mono {M N : List Addr} {G H G' H' : Hp} (x : Gr M G H G' H') (h : ∀ a ∈ M, a ∈ N) : Gr N G H G' H' :=
  ⟨x.g, x.s, fun a o m e => x.h a o (fun z => m (h a z)) e, x.t, x.n⟩
theorem Gr.any {N : List Addr} {G H G' H' : Hp} (x : Gr [] G H G' H') : Gr N G H G' H' := x.mono fun _ z => nomatch z
theorem Gr.free {M : List Addr} {G H G' H' : Hp} (x : Gr M G H G' H') {p : Addr} (h : H' p = none) : H p = none := by
  cases q : H p with
  | none => rfl
  | some o => obtain ⟨o', e⟩ := x.t p o q; rw [e] at h; cases h
/-- a new object that is data at once -/
theorem Gr.data {M : List Addr} {G H G' H' : Hp} (x : Gr M G H G' H') {p : Addr} {o : HO} (h : H' p = none) : Gr M G H (upd G' p o) (upd H' p o) :=
  ⟨x.g.trans (Sb.new (x.s.none h)), x.s.both, fun a u m e => by rw [upd_ne (ne_of_none (x.h a u m e) h)]; exact x.h a u m e,
   fun a u e => by obtain ⟨o', e'⟩ := x.t a u e; exact ⟨o', by rw [upd_ne (ne_of_none e' h)]; exact e'⟩,
   fun a u e e0 => by obtain ⟨o', e'⟩ := x.t a u e; rw [upd_ne (ne_of_none e' h)]; exact x.n a u e e0⟩
/-- a new object that is not data yet -/
theorem Gr.own {M : List Addr} {G H G' H' : Hp} (x : Gr M G H G' H') {p : Addr} {o : HO} (h : H' p = none) : Gr M G H G' (upd H' p o) :=
  ⟨x.g, x.s.mut (x.s.none h), fun a u m e => by rw [upd_ne (ne_of_none (x.h a u m e) h)]; exact x.h a u m e,
   fun a u e => by obtain ⟨o', e'⟩ := x.t a u e; exact ⟨o', by rw [upd_ne (ne_of_none e' h)]; exact e'⟩, x.n⟩
/-- an own object becomes data -/
theorem Gr.freeze {M : List Addr} {G H G' H' : Hp} (x : Gr M G H G' H') {p : Addr} {o : HO} (h : H' p = some o) (hn : G' p = none) (h0 : H p = none) : Gr M G H (upd G' p o) H' :=
  ⟨x.g.trans (Sb.new hn), x.s.add h, x.h, x.t, fun a u e e0 => by
    have ne : a ≠ p := fun q => by subst q; rw [h0] at e; cases e
    rw [upd_ne ne]; exact x.n a u e e0⟩
/-- an own object is written -/
theorem Gr.write {M : List Addr} {G H G' H' : Hp} (x : Gr M G H G' H') {p : Addr} {o : HO} (hm : p ∈ M ∨ H p = none) (hn : G' p = none) : Gr M G H G' (upd H' p o) :=
  ⟨x.g, x.s.mut hn, fun a u m e => by
    have ne : a ≠ p := fun q => by
      subst q
      rcases hm with hm | hm
      · exact m hm
      · rw [hm] at e; cases e
    rw [upd_ne ne]; exact x.h a u m e,
   fun a u e => by
    by_cases ne : a = p
    · subst ne; exact ⟨o, upd_same⟩
    · obtain ⟨o', e'⟩ := x.t a u e; exact ⟨o', by rw [upd_ne ne]; exact e'⟩, x.n⟩
/-- data for a while: what was frozen is own again, what was made of it is forgotten -/
theorem Gr.thaw {M : List Addr} {G H G2 H2 : Hp} {p : Addr} {o : HO} (x : Gr M (upd G p o) H G2 H2) (hn : G p = none) : Gr M G H G H2 :=
  ⟨Sb.refl G, ((Sb.new hn).trans x.g).trans x.s, x.h, x.t, fun _ _ _ e => e⟩
/-- what was made within is forgotten from M -/
theorem Gr.drop {M : List Addr} {p : Addr} {G H G' H' : Hp} (x : Gr (p :: M) G H G' H') (h : H p = none) : Gr M G H G' H' :=
  ⟨x.g, x.s, fun a o m e => x.h a o (fun z => by
    rcases List.mem_cons.mp z with z | z
    · subst z; rw [h] at e; cases e
    · exact m z) e, x.t, x.n⟩
theorem Gr.ne {M : List Addr} {G H G' H' : Hp} (x : Gr M G H G' H') {p : Addr} {o : HO} (h : H p = some o) (hn : G p = none) : G' p = none := x.n p o h hn

/-! ### what evaluates to what -/
def EvP (te : TE) (σ : L2.St) (G H : Hp) (P : PyData → Prop) : Prop := ∀ G1 H1, Gr [] G H G1 H1 → ∀ Q : VK, (∀ v d G2 H2, Gr [] G1 H1 G2 H2 → P d → Dx G2 v d → Q v H2) → te σ H1 Q
def EvD (te : TE) (σ : L2.St) (G H : Hp) (d : PyData) : Prop := ∀ G1 H1, Gr [] G H G1 H1 → ∀ Q : VK, (∀ v G2 H2, Gr [] G1 H1 G2 H2 → Dx G2 v d → Q v H2) → te σ H1 Q
/-- a new list of its own -/
def EvM (te : TE) (σ : L2.St) (G H : Hp) (ds : List PyData) : Prop := ∀ G1 H1, Gr [] G H G1 H1 → ∀ Q : VK, (∀ p xs G2 H2, Gr [] G1 H1 G2 H2 → H1 p = none → G2 p = none → H2 p = some (.lst xs) → Dxs G2 xs ds → Q (.ref p) H2) → te σ H1 Q
def EvMP (te : TE) (σ : L2.St) (G H : Hp) (P : List PyData → Prop) : Prop := ∀ G1 H1, Gr [] G H G1 H1 → ∀ Q : VK, (∀ p xs ds G2 H2, Gr [] G1 H1 G2 H2 → H1 p = none → G2 p = none → H2 p = some (.lst xs) → P ds → Dxs G2 xs ds → Q (.ref p) H2) → te σ H1 Q
def EvT (tt : TT) (σ : L2.St) (G H : Hp) (b : Bool) : Prop := ∀ G1 H1, Gr [] G H G1 H1 → ∀ Q : Bool → Hp → Prop, (∀ G2 H2, Gr [] G1 H1 G2 H2 → Q b H2) → tt σ H1 Q
def EvA (ta : TA) (σ : L2.St) (G H : Hp) (ds : List PyData) : Prop := ∀ G1 H1, Gr [] G H G1 H1 → ∀ Q : List V → Hp → Prop, (∀ vs G2 H2, Gr [] G1 H1 G2 H2 → Dxs G2 vs ds → Q vs H2) → ta σ H1 Q
def EvO (to : TO) (σ : L2.St) (G H : Hp) (o : Option Int) : Prop := ∀ G1 H1, Gr [] G H G1 H1 → ∀ Q : Option Int → Hp → Prop, (∀ G2 H2, Gr [] G1 H1 G2 H2 → Q o H2) → to σ H1 Q
/-- the same of operations on values -/
def RD (r : R2) (d1 d2 d : PyData) : Prop := ∀ G1 H1 x y, Sb G1 H1 → Dx G1 x d1 → Dx G1 y d2 → ∀ Q : VK, (∀ v G2 H2, Gr [] G1 H1 G2 H2 → Dx G2 v d → Q v H2) → r x y H1 Q
def RM (r : R2) (d1 d2 : PyData) (ds : List PyData) : Prop := ∀ G1 H1 x y, Sb G1 H1 → Dx G1 x d1 → Dx G1 y d2 → ∀ Q : VK, (∀ p xs G2 H2, Gr [] G1 H1 G2 H2 → H1 p = none → G2 p = none → H2 p = some (.lst xs) → Dxs G2 xs ds → Q (.ref p) H2) → r x y H1 Q
def CD (r : List V → Hp → VK → Prop) (ds : List PyData) (d : PyData) : Prop := ∀ G1 H1 vs, Sb G1 H1 → Dxs G1 vs ds → ∀ Q : VK, (∀ v G2 H2, Gr [] G1 H1 G2 H2 → Dx G2 v d → Q v H2) → r vs H1 Q
def CM (r : List V → Hp → VK → Prop) (ds : List PyData) (es : List PyData) : Prop := ∀ G1 H1 vs, Sb G1 H1 → Dxs G1 vs ds → ∀ Q : VK, (∀ p xs G2 H2, Gr [] G1 H1 G2 H2 → H1 p = none → G2 p = none → H2 p = some (.lst xs) → Dxs G2 xs es → Q (.ref p) H2) → r vs H1 Q
section
variable {K : PySem.W.Frag} {σ : L2.St} {G G' H H' : Hp} {ta tb tc te : TE} {tt tu : TT} {d d1 d2 d3 : PyData} {ds es : List PyData} {r r' : R2} {b c : Bool}
theorem EvD.p {P : PyData → Prop} (h : EvD te σ G H d) (p : P d) : EvP te σ G H P := fun G1 H1 a Q q => h G1 H1 a Q fun v G2 H2 g x => q v d G2 H2 g p x
theorem EvD.mono (h : EvD te σ G H d) (s : Gr [] G H G' H') : EvD te σ G' H' d := fun G1 H1 a Q q => h G1 H1 (s.trans a) Q q
theorem EvM.mono (h : EvM te σ G H ds) (s : Gr [] G H G' H') : EvM te σ G' H' ds := fun G1 H1 a Q q => h G1 H1 (s.trans a) Q q
theorem EvT.mono (h : EvT tt σ G H b) (s : Gr [] G H G' H') : EvT tt σ G' H' b := fun G1 H1 a Q q => h G1 H1 (s.trans a) Q q
theorem EvM.dat (h : EvM te σ G H ds) : EvD te σ G H (.list ds) := fun G1 H1 a Q q => h G1 H1 a Q fun p xs G2 H2 g h0 hn h2 x =>
  q (.ref p) _ H2 (g.freeze h2 hn h0) (.lst upd_same (x.mono (Sb.new hn)))
theorem ev_is (h : EvD te σ G H d) (e : d = d1) : EvD te σ G H d1 := e ▸ h
theorem evt_is (h : EvT tt σ G H b) (e : b = c) : EvT tt σ G H c := e ▸ h
theorem evm_is (h : EvM te σ G H ds) (e : ds = es) : EvM te σ G H es := e ▸ h
theorem ev_var {i : Nat} {v : V} (h : σ[i]? = some (some v)) (x : Dx G v d) : EvD (tVar i) σ G H d := fun G1 _ a _ q => ⟨v, h, q v G1 _ (.refl a.s) (x.mono a.g)⟩
theorem ev_int {i : Int} : EvD (tC (.int i)) σ G H (.int i) := fun G1 _ a _ q => q _ G1 _ (.refl a.s) (.int i)
theorem ev_bl {x : Bool} : EvD (tC (.bl x)) σ G H (.bool x) := fun G1 _ a _ q => q _ G1 _ (.refl a.s) (.bl x)
theorem ev_str {x : Str} : EvD (tC (.str x)) σ G H (.str x) := fun G1 _ a _ q => q _ G1 _ (.refl a.s) (.str x)
theorem ev_non : EvD (tC .non) σ G H .none := fun G1 _ a _ q => q _ G1 _ (.refl a.s) .non
theorem ev_op (ha : EvD ta σ G H d1) (hb : EvD tb σ G H d2) (hr : RD r d1 d2 d) : EvD (tOp r ta tb) σ G H d := fun G1 H1 a Q q =>
  ha G1 H1 a _ fun v G2 H2 g x => hb G2 H2 (a.trans g) _ fun u G3 H3 g3 y => hr G3 H3 v u g3.s (x.mono g3.g) y Q fun w G4 H4 g4 z => q w G4 H4 (g.trans (g3.trans g4)) z
theorem ev_opM (ha : EvD ta σ G H d1) (hb : EvD tb σ G H d2) (hr : RM r d1 d2 ds) : EvM (tOp r ta tb) σ G H ds := fun G1 H1 a Q q =>
  ha G1 H1 a _ fun v G2 H2 g x => hb G2 H2 (a.trans g) _ fun u G3 H3 g3 y => hr G3 H3 v u g3.s (x.mono g3.g) y Q fun p xs G4 H4 g4 h0 hn h4 z =>
    q p xs G4 H4 (g.trans (g3.trans g4)) ((g.trans g3).free h0) hn h4 z
theorem ev_chain {b1 b2 : Bool} (ha : EvD ta σ G H d1) (hb : EvD tb σ G H d2) (hr : RD r d1 d2 (.bool b1)) (hc : b1 = true → EvD tc σ G H d3) (hr' : b1 = true → RD r' d2 d3 (.bool b2)) : EvD (tChain r r' ta tb tc) σ G H (.bool (b1 && b2)) := fun G1 H1 a Q q =>
  ha G1 H1 a _ fun v G2 H2 g x => hb G2 H2 (a.trans g) _ fun u G3 H3 g3 y => hr G3 H3 v u g3.s (x.mono g3.g) y _ fun w G4 H4 g4 z => by
    refine ⟨b1, z.bl_eq, ?_⟩
    cases b1 with
    | true =>
      refine iteT (hc rfl G4 H4 (a.trans (g.trans (g3.trans g4))) _ fun t G5 H5 g5 zz => ?_)
      exact hr' rfl G5 H5 u t g5.s (y.mono (g4.g.trans g5.g)) zz Q fun w G6 H6 g6 z6 => q w G6 H6 (g.trans (g3.trans (g4.trans (g5.trans g6)))) z6
    | false => exact iteF (q _ G4 H4 (g.trans (g3.trans g4)) (.bl false))
theorem ev_un {f : V → Hp → VK → Prop} (ha : EvD ta σ G H d1) (hr : ∀ G1 H1 x, Sb G1 H1 → Dx G1 x d1 → ∀ Q : VK, (∀ v G2 H2, Gr [] G1 H1 G2 H2 → Dx G2 v d → Q v H2) → f x H1 Q) : EvD (tUn f ta) σ G H d := fun G1 H1 a Q q =>
  ha G1 H1 a _ fun v G2 H2 g x => hr G2 H2 v g.s x Q fun w G4 H4 g4 z => q w G4 H4 (g.trans g4) z
theorem ev_neg {i : Int} (ha : EvD ta σ G H (.int i)) : EvD (tUn (rU fun i => .int (-i)) ta) σ G H (.int (-i)) := ev_un ha fun G1 _ _ s x _ q => ⟨i, x.int_eq, q _ G1 _ (.refl s) (.int _)⟩
theorem ev_if (h : EvT tt σ G H b) (h1 : b = true → EvD ta σ G H d) (h2 : b = false → EvD tb σ G H d) : EvD (tIf tt ta tb) σ G H d := fun G1 H1 a Q q => h G1 H1 a _ fun G2 H2 g => by
  cases b with
  | true => exact iteT (h1 rfl G2 H2 (a.trans g) Q fun v G3 H3 g3 x => q v G3 H3 (g.trans g3) x)
  | false => exact iteF (h2 rfl G2 H2 (a.trans g) Q fun v G3 H3 g3 x => q v G3 H3 (g.trans g3) x)
/-! tests -/
theorem et_test (h : EvD te σ G H (.bool b)) : EvT (tTest te) σ G H b := fun G1 H1 a Q q => h G1 H1 a _ fun v G2 H2 g x => ⟨b, x.bl_eq, q G2 H2 g⟩
theorem et_B (h : EvD te σ G H (.bool b)) : EvT (tB te) σ G H b := fun G1 H1 a Q q => h G1 H1 a _ fun v G2 H2 g x => ⟨b, x.bl_eq, q G2 H2 g⟩
theorem et_and (h : EvT tt σ G H b) (h1 : b = true → EvT tu σ G H c) : EvT (tAnd tt tu) σ G H (b && c) := fun G1 H1 a Q q => h G1 H1 a _ fun G2 H2 g => by
  cases b with
  | true => exact iteT (h1 rfl G2 H2 (a.trans g) Q fun G3 H3 g3 => q G3 H3 (g.trans g3))
  | false => exact iteF (q G2 H2 g)
theorem et_or (h : EvT tt σ G H b) (h1 : b = false → EvT tu σ G H c) : EvT (tOr tt tu) σ G H (b || c) := fun G1 H1 a Q q => h G1 H1 a _ fun G2 H2 g => by
  cases b with
  | false => exact iteF (h1 rfl G2 H2 (a.trans g) Q fun G3 H3 g3 => q G3 H3 (g.trans g3))
  | true => exact iteT (q G2 H2 g)
theorem et_not (h : EvT tt σ G H b) : EvT (tNot tt) σ G H (!b) := fun G1 H1 a _ q => h G1 H1 a _ fun G2 H2 g => q G2 H2 g
theorem et_yes : EvT tYes σ G H true := fun G1 H1 a _ q => q G1 H1 (.refl a.s)
theorem ev_andV (h : EvD ta σ G H (.bool b)) (h1 : b = true → EvD tb σ G H (.bool c)) : EvD (tAndV ta tb) σ G H (.bool (b && c)) := fun G1 H1 a Q q => h G1 H1 a _ fun v G2 H2 g x => ⟨b, x.bl_eq, by
  cases b with
  | true => exact iteT (h1 rfl G2 H2 (a.trans g) Q fun v G3 H3 g3 x => q v G3 H3 (g.trans g3) x)
  | false => exact iteF (q _ G2 H2 g (.bl false))⟩
theorem ev_orV (h : EvD ta σ G H (.bool b)) (h1 : b = false → EvD tb σ G H (.bool c)) : EvD (tOrV ta tb) σ G H (.bool (b || c)) := fun G1 H1 a Q q => h G1 H1 a _ fun v G2 H2 g x => ⟨b, x.bl_eq, by
  cases b with
  | false => exact iteF (h1 rfl G2 H2 (a.trans g) Q fun v G3 H3 g3 x => q v G3 H3 (g.trans g3) x)
  | true => exact iteT (q _ G2 H2 g (.bl true))⟩
theorem ev_notV (h : EvD ta σ G H (.bool b)) : EvD (tNotV ta) σ G H (.bool (!b)) := fun G1 H1 a _ q => h G1 H1 a _ fun v G2 H2 g x => ⟨b, x.bl_eq, q _ G2 H2 g (.bl _)⟩
def isNone : PyData → Bool
  | .none => true
  | _ => false
theorem ev_isN (h : EvD ta σ G H d) : EvD (tIsN ta) σ G H (.bool (isNone d)) := fun G1 H1 a _ q => h G1 H1 a _ fun v G2 H2 g x => by
  have e : decide (v = V.non) = isNone d := by cases x <;> rfl
  show _
  rw [e]; exact q _ G2 H2 g (.bl _)
theorem ev_notN (h : EvD ta σ G H d) : EvD (tNotN ta) σ G H (.bool (!isNone d)) := fun G1 H1 a _ q => h G1 H1 a _ fun v G2 H2 g x => by
  have e : decide (v = V.non) = isNone d := by cases x <;> rfl
  show _
  rw [e]; exact q _ G2 H2 g (.bl _)
/-! arguments -/
theorem ea_nil : EvA tNil σ G H [] := fun G1 H1 a _ q => q [] G1 H1 (.refl a.s) .nil
theorem ea_cons {tr : TA} (h : EvD te σ G H d) (hr : EvA tr σ G H ds) : EvA (tCons te tr) σ G H (d :: ds) := fun G1 H1 a _ q =>
  h G1 H1 a _ fun v G2 H2 g x => hr G2 H2 (a.trans g) _ fun vs G3 H3 g3 xs => q (v :: vs) G3 H3 (g.trans g3) (.cons (x.mono g3.g) xs)
theorem ea_is {t : TA} (h : EvA t σ G H ds) (e : ds = es) : EvA t σ G H es := e ▸ h
theorem ev_tup {t : TA} (h : EvA t σ G H ds) (hl : ds.length ≤ 100000) : EvD (tTup t) σ G H (.tuple ds) := fun G1 H1 a _ q =>
  h G1 H1 a _ fun vs G2 H2 g xs => ⟨Evl.sz_of (by rw [xs.len]; exact hl), fun p hp => q (.ref p) _ _ (g.data hp) (.tup upd_same (xs.mono (Sb.new (g.s.none hp))))⟩
theorem ev_lst {t : TA} (h : EvA t σ G H ds) (hl : ds.length ≤ 100000) : EvM (tLst t) σ G H ds := fun G1 H1 a _ q =>
  h G1 H1 a _ fun vs G2 H2 g xs => ⟨Evl.sz_of (by rw [xs.len]; exact hl), fun p hp => q p vs G2 _ (g.own hp) (g.free hp) (g.s.none hp) upd_same xs⟩
theorem ev_cb {f : List V → Hp → VK → Prop} {t : TA} (h : EvA t σ G H ds) (hr : CD f ds d) : EvD (tCB f t) σ G H d := fun G1 H1 a Q q =>
  h G1 H1 a _ fun vs G2 H2 g xs => hr G2 H2 vs g.s xs Q fun v G3 H3 g3 x => q v G3 H3 (g.trans g3) x
theorem ev_cbM {f : List V → Hp → VK → Prop} {t : TA} (h : EvA t σ G H ds) (hr : CM f ds es) : EvM (tCB f t) σ G H es := fun G1 H1 a Q q =>
  h G1 H1 a _ fun vs G2 H2 g xs => hr G2 H2 vs g.s xs Q fun p ys G3 H3 g3 h0 hn h3 x => q p ys G3 H3 (g.trans g3) (g.free h0) hn h3 x
theorem eo_none : EvO tNoPart σ G H none := fun G1 H1 a _ q => q G1 H1 (.refl a.s)
theorem eo_some {i : Int} (h : EvD te σ G H (.int i)) : EvO (tPart te) σ G H (some i) := fun G1 H1 a _ q => h G1 H1 a _ fun v G2 H2 g x => ⟨i, x.int_eq, q G2 H2 g⟩
/-- an own list read: len(xs), xs[i] -/
theorem ev_lenO {l : Addr} {xs : List V} {i : Nat} (h : σ[i]? = some (some (.ref l))) (hl : H l = some (.lst xs)) : EvD (tCB (fun xs H Q => ∃ p ys, xs = [.ref p] ∧ (SqL K H p ys ∨ SqT K H p ys) ∧ Q (.int ys.length) H) (tCons (tVar i) tNil)) σ G H (.int xs.length) := fun G1 H1 a Q q =>
  ⟨.ref l, h, l, xs, rfl, Or.inl (Or.inl (Or.inl (a.h l _ (by simp) hl))), q _ G1 H1 (.refl a.s) (.int _)⟩
theorem ev_ixO {l : Addr} {xs : List V} {i : Nat} {k : Int} (h : σ[i]? = some (some (.ref l))) (hl : H l = some (.lst xs)) (hx : Dxs G xs ds) (hk : EvD ta σ G H (.int k)) (e : atI ds k = some d) : EvD (tOp (rIxL K) (tVar i) ta) σ G H d := fun G1 H1 a Q q =>
  ⟨.ref l, h, hk G1 H1 a _ fun v G2 H2 g x => by
    have hl2 := (a.trans g).h l _ (by simp) hl
    have dxs := hx.mono (a.trans g).g
    obtain ⟨j, hj⟩ : ∃ j, ixN ds.length k = some j := by
      unfold atI at e
      cases q : ixN ds.length k with
      | none => rw [q] at e; cases e
      | some j => exact ⟨j, rfl⟩
    unfold atI at e
    rw [hj] at e
    obtain ⟨u, hu, du⟩ := dxs.get (i := j) e
    refine ⟨l, xs, k, u, rfl, x.int_eq, Or.inl (Or.inl hl2), ?_, q u G2 H2 g du⟩
    unfold atI
    rw [dxs.len, hj]
    exact hu⟩
theorem ev_sumO {l : Addr} {xs : List V} {ns : List Int} {i : Nat} (h : σ[i]? = some (some (.ref l))) (hl : H l = some (.lst xs)) (hx : Dxs G xs (ns.map .int)) : EvD (tCB (rSum K) (tCons (tVar i) tNil)) σ G H (.int ns.sum) := fun G1 H1 a Q q =>
  ⟨.ref l, h, l, ns, rfl, by rw [← hx.ints_eq]; exact Or.inl (Or.inl (a.h l _ (by simp) hl)), q _ G1 H1 (.refl a.s) (.int _)⟩
end

/-! ### operations -/
section
variable {K : PySem.W.Frag} {d e : PyData} {ds es : List PyData} {i j : Int}
theorem rd_I0 {g : Int → Int → V} {d : PyData} (h : ∀ G, Dx G (g i j) d) : RD (rI0 g) (.int i) (.int j) d := fun G1 _ _ _ s x y _ q => ⟨i, j, x.int_eq, y.int_eq, q _ G1 _ (.refl s) (h G1)⟩
theorem rd_I {C : Int → Int → Prop} {g : Int → Int → V} {d : PyData} (hc : C i j) (h : ∀ G, Dx G (g i j) d) : RD (rI C g) (.int i) (.int j) d := fun G1 _ _ _ s x y _ q => ⟨i, j, x.int_eq, y.int_eq, hc, q _ G1 _ (.refl s) (h G1)⟩
theorem rd_add : RD (rI0 fun i j => .int (i + j)) (.int i) (.int j) (.int (i + j)) := rd_I0 fun _ => .int _
theorem rd_sub : RD (rI0 fun i j => .int (i - j)) (.int i) (.int j) (.int (i - j)) := rd_I0 fun _ => .int _
theorem rd_mul (h : CMul i j) : RD (rI CMul fun i j => .int (i * j)) (.int i) (.int j) (.int (i * j)) := rd_I h fun _ => .int _
theorem rd_mod (h : 0 < j) : RD (rI (fun _ j => 0 < j) fun i j => .int (i % j)) (.int i) (.int j) (.int (i % j)) := rd_I (C := fun _ j => 0 < j) h fun _ => .int _
theorem rd_fdiv (h : CDiv i j) : RD (rI CDiv fun i j => .int (i / j)) (.int i) (.int j) (.int (i / j)) := rd_I h fun _ => .int _
theorem rd_pow (h : CPow i j) : RD (rI CPow fun i j => .int (i ^ j.toNat)) (.int i) (.int j) (.int (i ^ j.toNat)) := rd_I h fun _ => .int _
theorem rd_lt : RD (rI0 fun i j => .bl (decide (i < j))) (.int i) (.int j) (.bool (decide (i < j))) := rd_I0 fun _ => .bl _
theorem rd_le : RD (rI0 fun i j => .bl (decide (i ≤ j))) (.int i) (.int j) (.bool (decide (i ≤ j))) := rd_I0 fun _ => .bl _
theorem rd_gt : RD (rI0 fun i j => .bl (decide (j < i))) (.int i) (.int j) (.bool (decide (j < i))) := rd_I0 fun _ => .bl _
theorem rd_ge : RD (rI0 fun i j => .bl (decide (j ≤ i))) (.int i) (.int j) (.bool (decide (j ≤ i))) := rd_I0 fun _ => .bl _
theorem rd_eqI : RD rEq (.int i) (.int j) (.bool (decide (i = j))) := fun G1 _ x y s hx hy _ q => by
  rw [hx.int_eq, hy.int_eq]
  refine ⟨rfl, ?_⟩
  have e : decide (V.int i = V.int j) = decide (i = j) := decide_eq_decide.mpr ⟨fun h => V.int.inj h, fun h => congrArg _ h⟩
  rw [e]; exact q _ G1 _ (.refl s) (.bl _)
theorem rd_neI : RD rNe (.int i) (.int j) (.bool (!decide (i = j))) := fun G1 _ x y s hx hy _ q => by
  rw [hx.int_eq, hy.int_eq]
  refine ⟨rfl, ?_⟩
  have e : decide (V.int i = V.int j) = decide (i = j) := decide_eq_decide.mpr ⟨fun h => V.int.inj h, fun h => congrArg _ h⟩
  rw [e]; exact q _ G1 _ (.refl s) (.bl _)
theorem rd_eqS {y z : Str} : RD rEq (.str y) (.str z) (.bool (decide (y = z))) := fun G1 _ u v s hx hy _ q => by
  rw [hx.str_eq, hy.str_eq]
  refine ⟨rfl, ?_⟩
  have e : decide (V.str y = V.str z) = decide (y = z) := decide_eq_decide.mpr ⟨fun h => V.str.inj h, fun h => congrArg _ h⟩
  rw [e]; exact q _ G1 _ (.refl s) (.bl _)
theorem rd_neS {y z : Str} : RD rNe (.str y) (.str z) (.bool (!decide (y = z))) := fun G1 _ u v s hx hy _ q => by
  rw [hx.str_eq, hy.str_eq]
  refine ⟨rfl, ?_⟩
  have e : decide (V.str y = V.str z) = decide (y = z) := decide_eq_decide.mpr ⟨fun h => V.str.inj h, fun h => congrArg _ h⟩
  rw [e]; exact q _ G1 _ (.refl s) (.bl _)
theorem rd_eqB {y z : Bool} : RD rEq (.bool y) (.bool z) (.bool (decide (y = z))) := fun G1 _ u v s hx hy _ q => by
  rw [hx.bl_eq, hy.bl_eq]
  refine ⟨rfl, ?_⟩
  have e : decide (V.bl y = V.bl z) = decide (y = z) := decide_eq_decide.mpr ⟨fun h => V.bl.inj h, fun h => congrArg _ h⟩
  rw [e]; exact q _ G1 _ (.refl s) (.bl _)
theorem rd_neB {y z : Bool} : RD rNe (.bool y) (.bool z) (.bool (!decide (y = z))) := fun G1 _ u v s hx hy _ q => by
  rw [hx.bl_eq, hy.bl_eq]
  refine ⟨rfl, ?_⟩
  have e : decide (V.bl y = V.bl z) = decide (y = z) := decide_eq_decide.mpr ⟨fun h => V.bl.inj h, fun h => congrArg _ h⟩
  rw [e]; exact q _ G1 _ (.refl s) (.bl _)
theorem rd_eqD (h1 : SeqAt.shaped d = true) (h2 : SeqAt.shaped e = true) : RD (rEqD K) d e (.bool (PyData.eqv d e)) := fun G1 _ _ _ s x y _ q =>
  ⟨d, e, (x.mono s).dp, (y.mono s).dp, h1, h2, q _ G1 _ (.refl s) (.bl _)⟩
theorem rd_neD (h1 : SeqAt.shaped d = true) (h2 : SeqAt.shaped e = true) : RD (rNeD K) d e (.bool (!PyData.eqv d e)) := fun G1 _ _ _ s x y _ q =>
  ⟨d, e, (x.mono s).dp, (y.mono s).dp, h1, h2, q _ G1 _ (.refl s) (.bl _)⟩
theorem atI_dx {G : Hp} {xs : List V} (h : Dxs G xs ds) (e : atI ds i = some d) : ∃ v, atI xs i = some v ∧ Dx G v d := by
  unfold atI at e ⊢
  rw [h.len]
  cases q : ixN ds.length i with
  | none => rw [q] at e; cases e
  | some j => rw [q] at e; exact h.get e
theorem rd_ixL (h : atI ds i = some d) : RD (rIxL K) (.list ds) (.int i) d := fun G1 H1 x y s hx hy Q q => by
  obtain ⟨a, xs, rfl, hl, ha⟩ := hx.lst_eq
  obtain ⟨v, hv, dv⟩ := atI_dx ha h
  exact ⟨a, xs, i, v, rfl, hy.int_eq, Or.inl (Or.inl (s _ _ hl)), hv, q v G1 H1 (.refl s) dv⟩
theorem rd_ixT (h : atI ds i = some d) : RD (rIxT K) (.tuple ds) (.int i) d := fun G1 H1 x y s hx hy Q q => by
  obtain ⟨a, xs, rfl, hl, ha⟩ := hx.tup_eq
  obtain ⟨v, hv, dv⟩ := atI_dx ha h
  exact ⟨a, xs, i, v, rfl, hy.int_eq, Or.inl (Or.inl (s _ _ hl)), hv, q v G1 H1 (.refl s) dv⟩
theorem rd_ixS {z : Str} {c : Nat} (hl : z.length ≤ 100000) (h : atI z.cps.toList i = some c) : RD rIxS (.str z) (.int i) (.str ⟨#[c]⟩) := fun G1 H1 x y s hx hy Q q =>
  ⟨z, i, c, hx.str_eq, hy.int_eq, Evl.sz_of hl, h, q _ G1 H1 (.refl s) (.str _)⟩
theorem rd_cat (hl : ds.length + es.length ≤ 100000) : RM rCat (.list ds) (.list es) (ds ++ es) := fun G1 H1 x y s hx hy Q q => by
  obtain ⟨a, xs, rfl, ha, dxs⟩ := hx.lst_eq
  obtain ⟨b, ys, rfl, hb, dys⟩ := hy.lst_eq
  exact ⟨a, b, xs, ys, rfl, rfl, s _ _ ha, s _ _ hb, Evl.sz_of (by rw [dxs.len, dys.len]; exact hl), fun p hp => q p _ G1 _ ((Gr.refl s).own hp) hp (s.none hp) upd_same (dxs.app dys)⟩
theorem dxs_rep {G : Hp} {xs : List V} (h : Dxs G xs ds) : ∀ n : Nat, Dxs G (List.replicate n xs).flatten (List.replicate n ds).flatten
  | 0 => .nil
  | n + 1 => by rw [List.replicate_succ, List.replicate_succ, List.flatten_cons, List.flatten_cons]; exact h.app (dxs_rep h n)
theorem rd_rep (h1 : -(2 ^ 63) ≤ i) (h2 : i < 2 ^ 63) (hl : ds.length * i.toNat ≤ 100000) : RM rRep (.list ds) (.int i) (List.replicate i.toNat ds).flatten := fun G1 H1 x y s hx hy Q q => by
  obtain ⟨a, xs, rfl, ha, dxs⟩ := hx.lst_eq
  exact ⟨a, i, xs, rfl, hy.int_eq, s _ _ ha, h1, h2, Evl.sz_of (by rw [dxs.len]; exact hl), fun p hp => q p _ G1 _ ((Gr.refl s).own hp) hp (s.none hp) upd_same (dxs_rep dxs _)⟩
theorem rd_addS {y z : Str} (h : y.length + z.length ≤ 100000) : RD (fun x y H Q => ∃ i j, x = .str i ∧ y = .str j ∧ i.length + j.length ≤ sizeLine ∧ Q (.str (i ++ j)) H) (.str y) (.str z) (.str (y ++ z)) := fun G1 _ _ _ s hx hy _ q =>
  ⟨y, z, hx.str_eq, hy.str_eq, Evl.sz_of h, q _ G1 _ (.refl s) (.str _)⟩
def cutD (xs : List PyData) (lo hi : Option Int) : List PyData := (xs.drop (HT.sIx xs.length 0 lo)).take (HT.sIx xs.length xs.length hi - HT.sIx xs.length 0 lo)
theorem ev_sl {σ : L2.St} {G H : Hp} {te : TE} {tl th : TO} {lo hi : Option Int} (h : EvD te σ G H (.list ds)) (h1 : EvO tl σ G H lo) (h2 : EvO th σ G H hi) : EvM (tSl (rSlL K) te tl th) σ G H (cutD ds lo hi) := fun G1 H1 a Q q =>
  h G1 H1 a _ fun v G2 H2 g x => h1 G2 H2 (a.trans g) _ fun G3 H3 g3 => h2 G3 H3 (a.trans (g.trans g3)) _ fun G4 H4 g4 => by
    obtain ⟨p, xs, rfl, hp, dxs⟩ := (x.mono (g3.g.trans g4.g)).lst_eq
    have gg := g.trans (g3.trans g4)
    refine ⟨p, xs, rfl, Or.inl (Or.inl (gg.s _ _ hp)), fun l hl => q l _ G4 _ (gg.own hl) (gg.free hl) (gg.s.none hl) upd_same ?_⟩
    unfold cutV cutD
    rw [dxs.len]
    exact (dxs.drop _).take _
theorem ev_slS {σ : L2.St} {G H : Hp} {te : TE} {tl th : TO} {lo hi : Option Int} {z : Str} (h : EvD te σ G H (.str z)) (h1 : EvO tl σ G H lo) (h2 : EvO th σ G H hi) (hz : z.length ≤ 100000) : EvD (tSl rSlS te tl th) σ G H (.str (cutS z lo hi)) := fun G1 H1 a Q q =>
  h G1 H1 a _ fun v G2 H2 g x => h1 G2 H2 (a.trans g) _ fun G3 H3 g3 => h2 G3 H3 (a.trans (g.trans g3)) _ fun G4 H4 g4 =>
    ⟨z, x.str_eq, Evl.sz_of hz, q _ G4 H4 (g.trans (g3.trans g4)) (.str _)⟩
/-! builtin calls -/
theorem cd_lenL : CD (fun xs H Q => ∃ p ys, xs = [.ref p] ∧ (SqL K H p ys ∨ SqT K H p ys) ∧ Q (.int ys.length) H) [.list ds] (.int ds.length) := fun G1 H1 vs s h Q q => by
  cases h with | cons h t => cases t with | nil =>
    obtain ⟨a, xs, rfl, ha, dxs⟩ := h.lst_eq
    refine ⟨a, xs, rfl, Or.inl (Or.inl (Or.inl (s _ _ ha))), ?_⟩
    rw [dxs.len]; exact q _ G1 H1 (.refl s) (.int _)
theorem cd_lenT : CD (fun xs H Q => ∃ p ys, xs = [.ref p] ∧ (SqL K H p ys ∨ SqT K H p ys) ∧ Q (.int ys.length) H) [.tuple ds] (.int ds.length) := fun G1 H1 vs s h Q q => by
  cases h with | cons h t => cases t with | nil =>
    obtain ⟨a, xs, rfl, ha, dxs⟩ := h.tup_eq
    refine ⟨a, xs, rfl, Or.inr (Or.inl (Or.inl (s _ _ ha))), ?_⟩
    rw [dxs.len]; exact q _ G1 H1 (.refl s) (.int _)
theorem cd_lenS {z : Str} (hz : z.length ≤ 100000) : CD (fun xs H Q => ∃ z, xs = [.str z] ∧ z.length ≤ sizeLine ∧ Q (.int z.length) H) [.str z] (.int z.length) := fun G1 H1 vs s h Q q => by
  cases h with | cons h t => cases t with | nil =>
    exact ⟨z, by rw [h.str_eq], Evl.sz_of hz, q _ G1 H1 (.refl s) (.int _)⟩
theorem cd_abs : CD (fun xs H Q => ∃ i, xs = [.int i] ∧ Q (.int (if i < 0 then -i else i)) H) [.int i] (.int (if i < 0 then -i else i)) := fun G1 H1 vs s h Q q => by
  cases h with | cons h t => cases t with | nil => exact ⟨i, by rw [h.int_eq], q _ G1 H1 (.refl s) (.int _)⟩
theorem cd_intB {b : Bool} : CD (fun xs H Q => (∃ i, xs = [.int i] ∧ Q (.int i) H) ∨ ∃ k, xs = [.bl k] ∧ Q (.int (if k then 1 else 0)) H) [.bool b] (.int (if b then 1 else 0)) := fun G1 H1 vs s h Q q => by
  cases h with | cons h t => cases t with | nil => exact Or.inr ⟨b, by rw [h.bl_eq], q _ G1 H1 (.refl s) (.int _)⟩
theorem cd_max2 : CD (fun xs H Q => ∃ i j, xs = [.int i, .int j] ∧ Q (.int (if j > i then j else i)) H) [.int i, .int j] (.int (if j > i then j else i)) := fun G1 H1 vs s h Q q => by
  cases h with | cons h t => cases t with | cons h2 t => cases t with | nil => exact ⟨i, j, by rw [h.int_eq, h2.int_eq], q _ G1 H1 (.refl s) (.int _)⟩
theorem cd_sum {ns : List Int} : CD (rSum K) [.list (ns.map .int)] (.int ns.sum) := fun G1 H1 vs s h Q q => by
  cases h with | cons h t => cases t with | nil =>
    obtain ⟨a, xs, rfl, ha, dxs⟩ := h.lst_eq
    rw [dxs.ints_eq] at ha
    exact ⟨a, ns, rfl, Or.inl (Or.inl (s _ _ ha)), q _ G1 H1 (.refl s) (.int _)⟩
theorem cd_all {bs : List Bool} : CD (rAll K) [.list (bs.map .bool)] (.bool (bs.all id)) := fun G1 H1 vs s h Q q => by
  cases h with | cons h t => cases t with | nil =>
    obtain ⟨a, xs, rfl, ha, dxs⟩ := h.lst_eq
    rw [dxs.bls_eq] at ha
    exact ⟨a, bs, rfl, Or.inl (Or.inl (s _ _ ha)), q _ G1 H1 (.refl s) (.bl _)⟩
theorem cd_listL : CM (fun xs H Q => ∃ p ys, xs = [.ref p] ∧ (SqL K H p ys ∨ SqT K H p ys) ∧ ∀ l, H l = none → Q (.ref l) (upd H l (.lst ys))) [.list ds] ds := fun G1 H1 vs s h Q q => by
  cases h with | cons h t => cases t with | nil =>
    obtain ⟨a, xs, rfl, ha, dxs⟩ := h.lst_eq
    exact ⟨a, xs, rfl, Or.inl (Or.inl (Or.inl (s _ _ ha))), fun l hl => q l xs G1 _ ((Gr.refl s).own hl) hl (s.none hl) upd_same dxs⟩
theorem cd_listT : CM (fun xs H Q => ∃ p ys, xs = [.ref p] ∧ (SqL K H p ys ∨ SqT K H p ys) ∧ ∀ l, H l = none → Q (.ref l) (upd H l (.lst ys))) [.tuple ds] ds := fun G1 H1 vs s h Q q => by
  cases h with | cons h t => cases t with | nil =>
    obtain ⟨a, xs, rfl, ha, dxs⟩ := h.tup_eq
    exact ⟨a, xs, rfl, Or.inr (Or.inl (Or.inl (s _ _ ha))), fun l hl => q l xs G1 _ ((Gr.refl s).own hl) hl (s.none hl) upd_same dxs⟩
end

/-! ### the promises of defs -/
/-- a value made of the arguments' data; nothing that stood changes -/
def SpD {α : Type} (args : α → List PyData) (pre : α → Prop) (f : α → PyData) : Sp := fun vs H Q _ => ∃ G x, Sb G H ∧ Dxs G vs (args x) ∧ pre x ∧ ∀ v G' H', Gr [] G H G' H' → Dx G' v (f x) → Q v H'
/-- the same, a new list of its own -/
def SpM {α : Type} (args : α → List PyData) (pre : α → Prop) (f : α → List PyData) : Sp := fun vs H Q _ => ∃ G x, Sb G H ∧ Dxs G vs (args x) ∧ pre x ∧ ∀ p xs G' H', Gr [] G H G' H' → H p = none → G' p = none → H' p = some (.lst xs) → Dxs G' xs (f x) → Q (.ref p) H'
section
variable {σ : L2.St} {G H : Hp} {ds : List PyData} {E : XK} {t : TA} {α : Type} {args : α → List PyData} {pre : α → Prop} {f : α → PyData} {fl : α → List PyData}
theorem ev_call (x : α) (h : EvA t σ G H (args x)) (hp : pre x) : EvD (tCall (SpD args pre f) [] E t) σ G H (f x) := fun G1 H1 a Q q =>
  h G1 H1 a _ fun vs G2 H2 g xs => ⟨G2, x, g.s, by rw [List.append_nil]; exact xs, hp, fun v G3 H3 g3 z => q v G3 H3 (g.trans g3) z⟩
theorem ev_callM (x : α) (h : EvA t σ G H (args x)) (hp : pre x) : EvM (tCall (SpM args pre fl) [] E t) σ G H (fl x) := fun G1 H1 a Q q =>
  h G1 H1 a _ fun vs G2 H2 g xs => ⟨G2, x, g.s, by rw [List.append_nil]; exact xs, hp, fun p ys G3 H3 g3 h0 hn h3 z => q p ys G3 H3 (g.trans g3) (g.free h0) hn h3 z⟩
theorem ev_callE {d : PyData} (x : α) (h : EvA t σ G H (args x)) (hp : pre x) (e : f x = d) : EvD (tCall (SpD args pre f) [] E t) σ G H d := e ▸ ev_call x h hp
theorem ev_callME {es : List PyData} (x : α) (h : EvA t σ G H (args x)) (hp : pre x) (e : fl x = es) : EvM (tCall (SpM args pre fl) [] E t) σ G H es := e ▸ ev_callM x h hp
end
theorem dxs1 {G : Hp} {vs : List V} {a : PyData} (h : Dxs G vs [a]) : ∃ x, vs = [x] ∧ Dx G x a := by
  cases h with | cons h t => cases t with | nil => exact ⟨_, rfl, h⟩
theorem dxs2 {G : Hp} {vs : List V} {a b : PyData} (h : Dxs G vs [a, b]) : ∃ x y, vs = [x, y] ∧ Dx G x a ∧ Dx G y b := by
  cases h with | cons h t => obtain ⟨y, rfl, hy⟩ := dxs1 t; exact ⟨_, y, rfl, h, hy⟩
theorem dxs3 {G : Hp} {vs : List V} {a b c : PyData} (h : Dxs G vs [a, b, c]) : ∃ x y z, vs = [x, y, z] ∧ Dx G x a ∧ Dx G y b ∧ Dx G z c := by
  cases h with | cons h t => obtain ⟨y, z, rfl, hy, hz⟩ := dxs2 t; exact ⟨_, y, z, rfl, h, hy, hz⟩
theorem dxs4 {G : Hp} {vs : List V} {a b c d : PyData} (h : Dxs G vs [a, b, c, d]) : ∃ x y z w, vs = [x, y, z, w] ∧ Dx G x a ∧ Dx G y b ∧ Dx G z c ∧ Dx G w d := by
  cases h with | cons h t => obtain ⟨y, z, w, rfl, hy, hz, hw⟩ := dxs3 t; exact ⟨_, y, z, w, rfl, h, hy, hz, hw⟩
theorem dxs5 {G : Hp} {vs : List V} {a b c d e : PyData} (h : Dxs G vs [a, b, c, d, e]) : ∃ x y z w u, vs = [x, y, z, w, u] ∧ Dx G x a ∧ Dx G y b ∧ Dx G z c ∧ Dx G w d ∧ Dx G u e := by
  cases h with | cons h t => obtain ⟨y, z, w, u, rfl, hy, hz, hw, hu⟩ := dxs4 t; exact ⟨_, y, z, w, u, rfl, h, hy, hz, hw, hu⟩

/-! ### statements -/
section
variable {K : PySem.W.Frag} {σ : L2.St} {G H : Hp} {ta tb te : TE} {tt : TT} {d : PyData} {ds : List PyData} {b : Bool} {D : Ends} {tu tw tz : TS} {i : Nat}
theorem s_asg (h : EvD te σ G H d) (s : Sb G H) (k : ∀ v G1 H1, Gr [] G H G1 H1 → Dx G1 v d → D.nx (σ.set i (some v)) H1) : tAsg te (gName i) D σ H := h G H (.refl s) _ k
theorem s_asgP {P : PyData → Prop} (h : EvP te σ G H P) (s : Sb G H) (k : ∀ v d G1 H1, Gr [] G H G1 H1 → P d → Dx G1 v d → D.nx (σ.set i (some v)) H1) : tAsg te (gName i) D σ H := h G H (.refl s) _ k
theorem s_asgM (h : EvM te σ G H ds) (s : Sb G H) (k : ∀ p xs G1 H1, Gr [] G H G1 H1 → H p = none → G1 p = none → H1 p = some (.lst xs) → Dxs G1 xs ds → D.nx (σ.set i (some (.ref p))) H1) : tAsg te (gName i) D σ H := h G H (.refl s) _ k
theorem s_ret (h : EvD te σ G H d) (s : Sb G H) (k : ∀ v G1 H1, Gr [] G H G1 H1 → Dx G1 v d → D.rt v H1) : tRet te D σ H := h G H (.refl s) _ k
theorem s_retM (h : EvM te σ G H ds) (s : Sb G H) (k : ∀ p xs G1 H1, Gr [] G H G1 H1 → H p = none → G1 p = none → H1 p = some (.lst xs) → Dxs G1 xs ds → D.rt (.ref p) H1) : tRet te D σ H := h G H (.refl s) _ k
theorem s_if (h : EvT tt σ G H b) (s : Sb G H) (h1 : b = true → ∀ G1 H1, Gr [] G H G1 H1 → tu D σ H1) (h2 : b = false → ∀ G1 H1, Gr [] G H G1 H1 → tw D σ H1) : tIfS tt tu tw D σ H := h G H (.refl s) _ fun G1 H1 g => by
  cases b with
  | true => exact iteT (h1 rfl G1 H1 g)
  | false => exact iteF (h2 rfl G1 H1 g)
theorem s_drop (h : EvD te σ G H d) (s : Sb G H) (k : ∀ G1 H1, Gr [] G H G1 H1 → D.nx σ H1) : tDrop te D σ H := h G H (.refl s) _ fun _ G1 H1 g _ => k G1 H1 g
/-- xs.append(e), xs an own list -/
theorem s_app {l : Addr} {xs : List V} (hv : σ[i]? = some (some (.ref l))) (hl : H l = some (.lst xs)) (hn : G l = none) (h : EvD te σ G H d) (s : Sb G H) (hz : xs.length < 100000)
    (k : ∀ v G1 H1, Gr [] G H G1 H1 → Dx G1 v d → Gr [l] G H G1 (upd H1 l (.lst (xs ++ [v]))) → G1 l = none → D.nx σ (upd H1 l (.lst (xs ++ [v])))) :
    tDrop (tBM K "list" rAppend (tVar i) (tCons te tNil)) D σ H :=
  ⟨.ref l, hv, Or.inl ⟨rfl, xs, Or.inl (Or.inl hl)⟩, h G H (.refl s) _ fun v G1 H1 g x =>
    ⟨l, xs, v, rfl, rfl, g.h l _ (by simp) hl, Evl.sz_lt hz, k v G1 H1 g x (g.any.write (Or.inl (by simp)) (g.n l _ hl hn)) (g.n l _ hl hn)⟩⟩
/-! sequences -/
theorem q_asg (h : EvD te σ G H d) (s : Sb G H) (k : ∀ v G1 H1, Gr [] G H G1 H1 → Dx G1 v d → tz D (σ.set i (some v)) H1) : tSeq (tAsg te (gName i)) tz D σ H := s_asg (D := { D with nx := tz D }) h s k
theorem q_asgP {P : PyData → Prop} (h : EvP te σ G H P) (s : Sb G H) (k : ∀ v d G1 H1, Gr [] G H G1 H1 → P d → Dx G1 v d → tz D (σ.set i (some v)) H1) : tSeq (tAsg te (gName i)) tz D σ H := s_asgP (D := { D with nx := tz D }) h s k
theorem q_asgM (h : EvM te σ G H ds) (s : Sb G H) (k : ∀ p xs G1 H1, Gr [] G H G1 H1 → H p = none → G1 p = none → H1 p = some (.lst xs) → Dxs G1 xs ds → tz D (σ.set i (some (.ref p))) H1) : tSeq (tAsg te (gName i)) tz D σ H := s_asgM (D := { D with nx := tz D }) h s k
theorem q_if (h : EvT tt σ G H b) (s : Sb G H) (h1 : b = true → ∀ G1 H1, Gr [] G H G1 H1 → tu { D with nx := tz D } σ H1) (h2 : b = false → ∀ G1 H1, Gr [] G H G1 H1 → tw { D with nx := tz D } σ H1) : tSeq (tIfS tt tu tw) tz D σ H := s_if (D := { D with nx := tz D }) h s h1 h2
theorem q_when (h : EvT tt σ G H b) (s : Sb G H) (h1 : b = true → ∀ G1 H1, Gr [] G H G1 H1 → tu { D with nx := tz D } σ H1) (h2 : b = false → ∀ G1 H1, Gr [] G H G1 H1 → tz D σ H1) : tSeq (tIfS tt tu tNext) tz D σ H := s_if (D := { D with nx := tz D }) h s h1 h2
theorem q_drop (h : EvD te σ G H d) (s : Sb G H) (k : ∀ G1 H1, Gr [] G H G1 H1 → tz D σ H1) : tSeq (tDrop te) tz D σ H := s_drop (D := { D with nx := tz D }) h s k
theorem q_app {l : Addr} {xs : List V} (hv : σ[i]? = some (some (.ref l))) (hl : H l = some (.lst xs)) (hn : G l = none) (h : EvD te σ G H d) (s : Sb G H) (hz : xs.length < 100000)
    (k : ∀ v G1 H1, Gr [] G H G1 H1 → Dx G1 v d → Gr [l] G H G1 (upd H1 l (.lst (xs ++ [v]))) → G1 l = none → tz D σ (upd H1 l (.lst (xs ++ [v])))) :
    tSeq (tDrop (tBM K "list" rAppend (tVar i) (tCons te tNil))) tz D σ H := s_app (D := { D with nx := tz D }) hv hl hn h s hz k
/-! loops: I, a word of the turn, the slots, the data heap and the heap -/
def Nx (M : List Addr) (G H : Hp) (I : Nat → L2.St → Hp → Hp → Prop) (n : Nat) : L2.St → Hp → Prop := fun σ' H' => ∃ G', Gr M G H G' H' ∧ I n σ' G' H'
theorem s_forL {tl : TE} {g : TG} (M : List Addr) (I : Nat → L2.St → Hp → Hp → Prop) (h : EvD tl σ G H (.list ds)) (s : Sb G H) (h0 : ∀ G1 H1, Gr [] G H G1 H1 → I 0 σ G1 H1)
    (hs : ∀ G1 H1, Gr [] G H G1 H1 → ∀ n d v σ' G' H', ds[n]? = some d → Dx G' v d → Gr M G1 H1 G' H' → I n σ' G' H' → g v σ' H' fun σ2 H2 => tu { D with nx := Nx M G1 H1 I (n + 1), ct := Nx M G1 H1 I (n + 1), bk := D.nx } σ2 H2)
    (hd : ∀ σ' G' H', Gr M G H G' H' → I ds.length σ' G' H' → D.nx σ' H') : tFor (iList K tl) g tu D σ H :=
  h G H (.refl s) _ fun v G1 H1 g1 x => by
    obtain ⟨a, xs, rfl, ha, dxs⟩ := x.lst_eq
    refine ⟨a, rfl, ⟨xs, Or.inl (Or.inl (g1.s _ _ ha))⟩, for_list (xs := xs) (Nx M G1 H1 I) ⟨G1, .refl g1.s, h0 G1 H1 g1⟩ (fun n σ' H' _ p => ?_) (fun n x σ' H' hx p => ?_) (fun σ' H' p => ?_)⟩
    · obtain ⟨G', g', _⟩ := p
      exact Or.inl (Or.inl (g'.s _ _ (g'.g _ _ ha)))
    · obtain ⟨G', g', w⟩ := p
      obtain ⟨d, hd1, hd2⟩ := dxs.getV hx
      exact hs G1 H1 g1 n d x σ' G' H' hd1 (hd2.mono g'.g) g' w
    · obtain ⟨G', g', w⟩ := p
      rw [dxs.len] at w
      exact hd σ' G' H' (g1.any.trans g') w
theorem s_forT {tl : TE} {g : TG} (M : List Addr) (I : Nat → L2.St → Hp → Hp → Prop) (h : EvD tl σ G H (.tuple ds)) (s : Sb G H) (h0 : ∀ G1 H1, Gr [] G H G1 H1 → I 0 σ G1 H1)
    (hs : ∀ G1 H1, Gr [] G H G1 H1 → ∀ n d v σ' G' H', ds[n]? = some d → Dx G' v d → Gr M G1 H1 G' H' → I n σ' G' H' → g v σ' H' fun σ2 H2 => tu { D with nx := Nx M G1 H1 I (n + 1), ct := Nx M G1 H1 I (n + 1), bk := D.nx } σ2 H2)
    (hd : ∀ σ' G' H', Gr M G H G' H' → I ds.length σ' G' H' → D.nx σ' H') : tFor (iTup K tl) g tu D σ H :=
  h G H (.refl s) _ fun v G1 H1 g1 x => by
    obtain ⟨a, xs, rfl, ha, dxs⟩ := x.tup_eq
    refine ⟨a, rfl, ⟨xs, Or.inl (Or.inl (g1.s _ _ ha))⟩, for_tup (xs := xs) (Nx M G1 H1 I) ⟨G1, .refl g1.s, h0 G1 H1 g1⟩ (fun n σ' H' _ p => ?_) (fun n x σ' H' hx p => ?_) (fun σ' H' p => ?_)⟩
    · obtain ⟨G', g', _⟩ := p
      exact Or.inl (Or.inl (g'.s _ _ (g'.g _ _ ha)))
    · obtain ⟨G', g', w⟩ := p
      obtain ⟨d, hd1, hd2⟩ := dxs.getV hx
      exact hs G1 H1 g1 n d x σ' G' H' hd1 (hd2.mono g'.g) g' w
    · obtain ⟨G', g', w⟩ := p
      rw [dxs.len] at w
      exact hd σ' G' H' (g1.any.trans g') w
/-- for i in range(m) -/
theorem s_forR {t : TA} {j : Nat} {m : Int} (M : List Addr) (I : Nat → L2.St → Hp → Hp → Prop) (h : EvA t σ G H [.int m]) (hm : 0 ≤ m ∧ m ≤ 100000) (s : Sb G H) (h0 : ∀ G1 H1, Gr [] G H G1 H1 → I 0 σ G1 H1)
    (hs : ∀ G1 H1, Gr [] G H G1 H1 → ∀ (n : Nat) σ' G' H', (n : Int) < m → Gr M G1 H1 G' H' → I n σ' G' H' → tu { D with nx := Nx M G1 H1 I (n + 1), ct := Nx M G1 H1 I (n + 1), bk := D.nx } (σ'.set j (some (.int (n : Int)))) H')
    (hd : ∀ σ' G' H', Gr M G H G' H' → I m.toNat σ' G' H' → D.nx σ' H') : tFor (iRng1 t) (gName j) tu D σ H :=
  h G H (.refl s) _ fun vs G1 H1 g1 x => by
    obtain ⟨v, rfl, hv⟩ := dxs1 x
    refine ⟨m, by rw [hv.int_eq], by omega, by omega, for_range (lo := 0) (n := m.toNat) (Nx M G1 H1 I) ⟨G1, .refl g1.s, h0 G1 H1 g1⟩ (fun n σ' H' hn p => ?_) (fun σ' H' p => ?_)⟩
    · obtain ⟨G', g', w⟩ := p
      have e0 : (0 : Int) + (n : Int) = (n : Int) := Int.zero_add _
      show tu _ (σ'.set j (some (.int ((0 : Int) + (n : Int))))) H'
      rw [e0]
      exact hs G1 H1 g1 n σ' G' H' (by omega) g' w
    · obtain ⟨G', g', w⟩ := p
      exact hd σ' G' H' (g1.any.trans g') w
theorem q_forL {tl : TE} {g : TG} (M : List Addr) (I : Nat → L2.St → Hp → Hp → Prop) (h : EvD tl σ G H (.list ds)) (s : Sb G H) (h0 : ∀ G1 H1, Gr [] G H G1 H1 → I 0 σ G1 H1)
    (hs : ∀ G1 H1, Gr [] G H G1 H1 → ∀ n d v σ' G' H', ds[n]? = some d → Dx G' v d → Gr M G1 H1 G' H' → I n σ' G' H' → g v σ' H' fun σ2 H2 => tu { D with nx := Nx M G1 H1 I (n + 1), ct := Nx M G1 H1 I (n + 1), bk := tz D } σ2 H2)
    (hd : ∀ σ' G' H', Gr M G H G' H' → I ds.length σ' G' H' → tz D σ' H') : tSeq (tFor (iList K tl) g tu) tz D σ H := s_forL (D := { D with nx := tz D }) M I h s h0 hs hd
theorem q_forT {tl : TE} {g : TG} (M : List Addr) (I : Nat → L2.St → Hp → Hp → Prop) (h : EvD tl σ G H (.tuple ds)) (s : Sb G H) (h0 : ∀ G1 H1, Gr [] G H G1 H1 → I 0 σ G1 H1)
    (hs : ∀ G1 H1, Gr [] G H G1 H1 → ∀ n d v σ' G' H', ds[n]? = some d → Dx G' v d → Gr M G1 H1 G' H' → I n σ' G' H' → g v σ' H' fun σ2 H2 => tu { D with nx := Nx M G1 H1 I (n + 1), ct := Nx M G1 H1 I (n + 1), bk := tz D } σ2 H2)
    (hd : ∀ σ' G' H', Gr M G H G' H' → I ds.length σ' G' H' → tz D σ' H') : tSeq (tFor (iTup K tl) g tu) tz D σ H := s_forT (D := { D with nx := tz D }) M I h s h0 hs hd
theorem q_forR {t : TA} {j : Nat} {m : Int} (M : List Addr) (I : Nat → L2.St → Hp → Hp → Prop) (h : EvA t σ G H [.int m]) (hm : 0 ≤ m ∧ m ≤ 100000) (s : Sb G H) (h0 : ∀ G1 H1, Gr [] G H G1 H1 → I 0 σ G1 H1)
    (hs : ∀ G1 H1, Gr [] G H G1 H1 → ∀ (n : Nat) σ' G' H', (n : Int) < m → Gr M G1 H1 G' H' → I n σ' G' H' → tu { D with nx := Nx M G1 H1 I (n + 1), ct := Nx M G1 H1 I (n + 1), bk := tz D } (σ'.set j (some (.int (n : Int)))) H')
    (hd : ∀ σ' G' H', Gr M G H G' H' → I m.toNat σ' G' H' → tz D σ' H') : tSeq (tFor (iRng1 t) (gName j) tu) tz D σ H := s_forR (D := { D with nx := tz D }) M I h hm s h0 hs hd
end

/-! ### comprehensions -/
def given {β : Type} (n : Nat) (f : Nat → Bool) (v : Nat → β) : List β := ((List.range n).filter f).map v
theorem given_yes {β : Type} {n : Nat} {f : Nat → Bool} {v : Nat → β} (h : f n = true) : given (n + 1) f v = given n f v ++ [v n] := by
  unfold given
  rw [List.range_succ, List.filter_append, List.map_append, List.filter_cons, if_pos h] <;> rfl
theorem given_no {β : Type} {n : Nat} {f : Nat → Bool} {v : Nat → β} (h : f n = false) : given (n + 1) f v = given n f v := by
  unfold given
  rw [List.range_succ, List.filter_append, List.map_append, List.filter_cons, if_neg (by rw [h]; decide)]
  show _ ++ [] = _
  rw [List.append_nil]
theorem given_len {β : Type} (n : Nat) (f : Nat → Bool) (v : Nat → β) : (given n f v).length ≤ n := by
  unfold given
  rw [List.length_map]
  have h := List.length_filter_le f (List.range n)
  rw [List.length_range] at h
  exact h
section
variable {K : PySem.W.Frag} {σ : L2.St} {G H : Hp} {ta tb te : TE} {tt : TT} {d : PyData} {ds : List PyData}
/-- while the new list at l is being filled -/
def Cw (G H : Hp) (f : Nat → Bool) (v : Nat → PyData) (l : Addr) (i : Nat) (H' : Hp) : Prop := ∃ G' xs, Gr [] G H G' H' ∧ G' l = none ∧ H' l = some (.lst xs) ∧ Dxs G' xs (given i f v)
theorem cw_turn {H' : Hp} {f : Nat → Bool} {v : Nat → PyData} {l : Addr} {i : Nat} {σ2 : L2.St} (hl : H l = none) (p : Cw G H f v l i H') (hi : i < 50000)
    (ht : EvT tt σ2 G H (f i)) (he : f i = true → EvD te σ2 G H (v i)) :
    tt σ2 H' fun b H3 => if b = true then te σ2 H3 fun y H4 => ∃ acc, H4 l = some (.lst acc) ∧ acc.length < sizeLine ∧ Cw G H f v l (i + 1) (upd H4 l (.lst (acc ++ [y]))) else Cw G H f v l (i + 1) H3 := by
  obtain ⟨G', xs, g, hn', hx, dx⟩ := p
  refine ht G' H' g _ fun G3 H3 g3 => ?_
  cases hf : f i with
  | true =>
    refine iteT (he hf G3 H3 (g.trans g3) _ fun y G4 H4 g4 hy => ?_)
    have g34 := g3.trans g4
    refine ⟨xs, g34.h l _ (by simp) hx, Evl.sz_lt (by rw [dx.len]; have := given_len i f v; omega), G4, xs ++ [y], ?_, g34.n l _ hx hn', upd_same, ?_⟩
    · exact (g.trans g34).write (Or.inr hl) (g34.n l _ hx hn')
    · rw [given_yes hf]
      exact (dx.mono g34.g).app (Dxs.one hy)
  | false =>
    refine iteF ⟨G3, xs, g.trans g3, g3.n l _ hx hn', g3.h l _ (by simp) hx, ?_⟩
    rw [given_no hf]
    exact dx.mono g3.g
/-- [e for j in range(m) if t] -/
theorem ev_lcR {t : TA} {j : Nat} {vs : List Nat} {m : Int} (f : Nat → Bool) (v : Nat → PyData) (h : EvA t σ G H [.int m]) (hm : 0 ≤ m ∧ m ≤ 40000) (hw : ∀ x, wipe ((wipe σ vs).set j (some x)) vs = wipe σ vs)
    (ht : ∀ (i : Nat), (i : Int) < m → EvT tt ((wipe σ vs).set j (some (.int (i : Int)))) G H (f i)) (he : ∀ (i : Nat), (i : Int) < m → f i = true → EvD te ((wipe σ vs).set j (some (.int (i : Int)))) G H (v i)) :
    EvM (tLc (iRng1 t) (gName j) tt te vs) σ G H (given m.toNat f v) := fun G0 H0 a Q q => h G0 H0 a _ fun us G1 H1 g1 x => by
  obtain ⟨u, rfl, hu⟩ := dxs1 x
  have gg := a.trans g1
  refine ⟨m, by rw [hu.int_eq], by omega, by omega, fun l hl => lc_range (lo := 0) (n := m.toNat) (Cw G1 H1 f v l) ⟨G1, [], (Gr.refl g1.s).own hl, g1.s.none hl, upd_same, by exact .nil⟩ (fun i H' hi p => ?_) (fun H' p => ?_)⟩
  · have e0 : (0 : Int) + (i : Int) = (i : Int) := Int.zero_add _
    show wipe ((wipe σ vs).set j (some (.int ((0 : Int) + (i : Int))))) vs = wipe σ vs ∧ tt ((wipe σ vs).set j (some (.int ((0 : Int) + (i : Int))))) H' _
    rw [e0]
    exact ⟨hw _, cw_turn hl p (by omega) ((ht i (by omega)).mono gg) (fun hf => (he i (by omega) hf).mono gg)⟩
  · obtain ⟨G', xs, k1, k2, k3, k4⟩ := p
    exact q l xs G' H' (g1.trans k1) (g1.free hl) k2 k3 k4
/-- [e for x in xs if t], the target any -/
theorem ev_lcL {tl : TE} {g : TG} {vs : List Nat} (f : Nat → Bool) (v : Nat → PyData) (h : EvD tl σ G H (.list ds)) (hz : ds.length ≤ 40000)
    (ht : ∀ (i : Nat) (d : PyData) (x : V) G1 H1 H' (Q : L2.St → Hp → Prop), Gr [] G H G1 H1 → ds[i]? = some d → Dx G1 x d → Sb G1 H' → (∀ σ2, wipe σ2 vs = wipe σ vs → EvT tt σ2 G1 H1 (f i) → (f i = true → EvD te σ2 G1 H1 (v i)) → Q σ2 H') → g x (wipe σ vs) H' Q) :
    EvM (tLc (iList K tl) g tt te vs) σ G H (given ds.length f v) := fun G0 H0 a Q q => h G0 H0 a _ fun u G1 H1 g1 x => by
  obtain ⟨p, xs, rfl, hp, dxs⟩ := x.lst_eq
  refine ⟨p, rfl, ⟨xs, Or.inl (Or.inl (g1.s _ _ hp))⟩, fun l hl => lc_list (xs := xs) (Cw G1 H1 f v l) ⟨G1, [], (Gr.refl g1.s).own hl, g1.s.none hl, upd_same, by exact .nil⟩ (fun i H' _ w => ?_) (fun i x H' hx w => ?_) (fun H' w => ?_)⟩
  · obtain ⟨G', ys, gg, _, _⟩ := w
    exact Or.inl (Or.inl (gg.s _ _ (gg.g _ _ hp)))
  · obtain ⟨d, hd1, hd2⟩ := dxs.getV hx
    have hi : i < ds.length := (List.getElem?_eq_some_iff.mp hd1).1
    have w0 := w
    obtain ⟨G', ys, gg, _, _⟩ := w0
    refine ht i d x G1 H1 H' _ (a.trans g1) hd1 hd2 (gg.g.trans gg.s) fun σ2 hw h1 h2 => ⟨hw, ?_⟩
    exact cw_turn hl w (by omega) h1 h2
  · rw [dxs.len] at w
    obtain ⟨G', xs, k1, k2, k3, k4⟩ := w
    exact q l xs G' H' (g1.trans k1) (g1.free hl) k2 k3 k4
theorem ev_lcT {tl : TE} {g : TG} {vs : List Nat} (f : Nat → Bool) (v : Nat → PyData) (h : EvD tl σ G H (.tuple ds)) (hz : ds.length ≤ 40000)
    (ht : ∀ (i : Nat) (d : PyData) (x : V) G1 H1 H' (Q : L2.St → Hp → Prop), Gr [] G H G1 H1 → ds[i]? = some d → Dx G1 x d → Sb G1 H' → (∀ σ2, wipe σ2 vs = wipe σ vs → EvT tt σ2 G1 H1 (f i) → (f i = true → EvD te σ2 G1 H1 (v i)) → Q σ2 H') → g x (wipe σ vs) H' Q) :
    EvM (tLc (iTup K tl) g tt te vs) σ G H (given ds.length f v) := fun G0 H0 a Q q => h G0 H0 a _ fun u G1 H1 g1 x => by
  obtain ⟨p, xs, rfl, hp, dxs⟩ := x.tup_eq
  refine ⟨p, rfl, ⟨xs, Or.inl (Or.inl (g1.s _ _ hp))⟩, fun l hl => lc_tup (xs := xs) (Cw G1 H1 f v l) ⟨G1, [], (Gr.refl g1.s).own hl, g1.s.none hl, upd_same, by exact .nil⟩ (fun i H' _ w => ?_) (fun i x H' hx w => ?_) (fun H' w => ?_)⟩
  · obtain ⟨G', ys, gg, _, _⟩ := w
    exact Or.inl (Or.inl (gg.s _ _ (gg.g _ _ hp)))
  · obtain ⟨d, hd1, hd2⟩ := dxs.getV hx
    have hi : i < ds.length := (List.getElem?_eq_some_iff.mp hd1).1
    have w0 := w
    obtain ⟨G', ys, gg, _, _⟩ := w0
    refine ht i d x G1 H1 H' _ (a.trans g1) hd1 hd2 (gg.g.trans gg.s) fun σ2 hw h1 h2 => ⟨hw, ?_⟩
    exact cw_turn hl w (by omega) h1 h2
  · rw [dxs.len] at w
    obtain ⟨G', xs, k1, k2, k3, k4⟩ := w
    exact q l xs G' H' (g1.trans k1) (g1.free hl) k2 k3 k4
/-- .. the target a name -/
theorem ev_lcLn {tl : TE} {j : Nat} {vs : List Nat} (f : Nat → Bool) (v : Nat → PyData) (h : EvD tl σ G H (.list ds)) (hz : ds.length ≤ 40000) (hw : ∀ x, wipe ((wipe σ vs).set j (some x)) vs = wipe σ vs)
    (ht : ∀ (i : Nat) (d : PyData) (x : V) G1 H1, Gr [] G H G1 H1 → ds[i]? = some d → Dx G1 x d → EvT tt ((wipe σ vs).set j (some x)) G1 H1 (f i)) (he : ∀ (i : Nat) (d : PyData) (x : V) G1 H1, Gr [] G H G1 H1 → ds[i]? = some d → Dx G1 x d → f i = true → EvD te ((wipe σ vs).set j (some x)) G1 H1 (v i)) :
    EvM (tLc (iList K tl) (gName j) tt te vs) σ G H (given ds.length f v) := ev_lcL f v h hz fun i d x G1 H1 H' Q s hd hx _ q => q _ (hw x) (ht i d x G1 H1 s hd hx) (he i d x G1 H1 s hd hx)
theorem ev_lcTn {tl : TE} {j : Nat} {vs : List Nat} (f : Nat → Bool) (v : Nat → PyData) (h : EvD tl σ G H (.tuple ds)) (hz : ds.length ≤ 40000) (hw : ∀ x, wipe ((wipe σ vs).set j (some x)) vs = wipe σ vs)
    (ht : ∀ (i : Nat) (d : PyData) (x : V) G1 H1, Gr [] G H G1 H1 → ds[i]? = some d → Dx G1 x d → EvT tt ((wipe σ vs).set j (some x)) G1 H1 (f i)) (he : ∀ (i : Nat) (d : PyData) (x : V) G1 H1, Gr [] G H G1 H1 → ds[i]? = some d → Dx G1 x d → f i = true → EvD te ((wipe σ vs).set j (some x)) G1 H1 (v i)) :
    EvM (tLc (iTup K tl) (gName j) tt te vs) σ G H (given ds.length f v) := ev_lcT f v h hz fun i d x G1 H1 H' Q s hd hx _ q => q _ (hw x) (ht i d x G1 H1 s hd hx) (he i d x G1 H1 s hd hx)
end

/-! ### names of the built-ins -/
structure Bi (mg : Str → Option Value) : Prop where
  len : mg "len" = none
  range : mg "range" = none
  abs : mg "abs" = none
  int_ : mg "int" = none
  sum : mg "sum" = none
  isinstance : mg "isinstance" = none
  tuple : mg "tuple" = none
  list : mg "list" = none
  all : mg "all" = none
  bool : mg "bool" = none
  max : mg "max" = none
  enumerate : mg "enumerate" = none
  sorted : mg "sorted" = none
  str_ : mg "str" = none
/-! ### lists beside the data -/
theorem sq_gr {K : PySem.W.Frag} {M : List Addr} {G H G' H' : Hp} {a : Addr} {xs : List V} (g : Gr M G H G' H') (hm : a ∉ M) (h : SqL K H a xs) : SqL K H' a xs := by
  rcases h with (h | ⟨o, h⟩) | h
  · exact Or.inl (Or.inl (g.h a _ hm h))
  · exact Or.inl (Or.inr ⟨o, g.h a _ hm h⟩)
  · exact Or.inr h
theorem rd_fdivW {i j : Int} (h : CDivW i j) : RD (rI CDivW fun i j => .int (i / j)) (.int i) (.int j) (.int (i / j)) := rd_I h fun _ => .int _
theorem atI_int {ns : List Int} {i : Int} (h0 : 0 ≤ i) (h : i < ns.length) : atI (ns.map PyData.int) i = some (.int (ns.getD i.toNat 0)) := by
  obtain ⟨k, rfl⟩ : ∃ k : Nat, i = (k : Int) := ⟨i.toNat, by omega⟩
  have hk : k < ns.length := by omega
  refine atI_nat ?_
  rw [List.getElem?_map, List.getElem?_eq_getElem hk]
  show some (PyData.int ns[k]) = some (PyData.int (ns.getD k 0))
  rw [List.getD_eq_getElem?_getD, List.getElem?_eq_getElem hk]
  rfl

/-! ### one own list at l, seen from (B, C) where it was not yet written so -/
structure Ow (B C G H : Hp) (l : Addr) (xs : List V) : Prop where
  g : Gr [l] B C G H
  hl : H l = some (.lst xs)
  hn : G l = none
theorem Ow.s {B C G H : Hp} {l : Addr} {xs : List V} (o : Ow B C G H l xs) : Sb G H := o.g.s
theorem Ow.mk0 {B C G H : Hp} {l : Addr} {xs : List V} (g : Gr [] B C G H) (hl : H l = some (.lst xs)) (hn : G l = none) : Ow B C G H l xs := ⟨g.any, hl, hn⟩
theorem Ow.step {B C G H G' H' : Hp} {l : Addr} {xs : List V} (o : Ow B C G H l xs) (g : Gr [] G H G' H') : Ow B C G' H' l xs := ⟨o.g.trans g.any, g.h l _ (by simp) o.hl, g.n l _ o.hl o.hn⟩
theorem Ow.put {B C G H G' H' : Hp} {l : Addr} {xs : List V} (o : Ow B C G H l xs) (g : Gr [] G H G' H') (ys : List V) : Ow B C G' (upd H' l (.lst ys)) l ys :=
  ⟨(o.g.trans g.any).write (Or.inl (by simp)) (o.step g).hn, upd_same, (o.step g).hn⟩
/-- a list that is read stays while l is written -/
theorem Ow.sq {K : PySem.W.Frag} {B C G H : Hp} {l a : Addr} {xs ys : List V} (o : Ow B C G H l xs) (h0 : C l = none) (h : SqL K C a ys) : SqL K H a ys := sq_gr (o.g.drop h0) (by simp) h
theorem q_app' {K : PySem.W.Frag} {σ : L2.St} {B C G H : Hp} {te : TE} {d : PyData} {D : Ends} {tz : TS} {i : Nat} {l : Addr} {xs : List V} (o : Ow B C G H l xs) (hv : σ[i]? = some (some (.ref l))) (h : EvD te σ G H d) (hz : xs.length < 100000)
    (k : ∀ v G1 H1, Dx G1 v d → Gr [] G H G1 H1 → Ow B C G1 (upd H1 l (.lst (xs ++ [v]))) l (xs ++ [v]) → tz D σ (upd H1 l (.lst (xs ++ [v])))) :
    tSeq (tDrop (tBM K "list" rAppend (tVar i) (tCons te tNil))) tz D σ H := q_app hv o.hl o.hn h o.s hz fun v G1 H1 g x _ _ => k v G1 H1 x g (o.put g _)
theorem s_app' {K : PySem.W.Frag} {σ : L2.St} {B C G H : Hp} {te : TE} {d : PyData} {D : Ends} {i : Nat} {l : Addr} {xs : List V} (o : Ow B C G H l xs) (hv : σ[i]? = some (some (.ref l))) (h : EvD te σ G H d) (hz : xs.length < 100000)
    (k : ∀ v G1 H1, Dx G1 v d → Gr [] G H G1 H1 → Ow B C G1 (upd H1 l (.lst (xs ++ [v]))) l (xs ++ [v]) → D.nx σ (upd H1 l (.lst (xs ++ [v])))) :
    tDrop (tBM K "list" rAppend (tVar i) (tCons te tNil)) D σ H := s_app hv o.hl o.hn h o.s hz fun v G1 H1 g x _ _ => k v G1 H1 x g (o.put g _)

/-! ### isinstance -/
def tyN : PyData → String
  | .none => "NoneType"
  | .bool _ => "bool"
  | .int _ => "int"
  | .str _ => "str"
  | .list _ => "list"
  | .tuple _ => "tuple"
  | .dict _ => "dict"
theorem dx_ty {K : PySem.W.Frag} {G H : Hp} {v : V} {d : PyData} (s : Sb G H) (x : Dx G v d) : TyX K H v (.type (tyN d)) := by
  cases x with
  | non => exact .base .non
  | bl b => exact .base (.bl b)
  | int i => exact .base (.int i)
  | str z => exact .base (.str z)
  | lst h _ => exact .base (.lst (s _ _ h))
  | tup h _ => exact .base (.tup (s _ _ h))
section
variable {K : PySem.W.Frag} {σ : L2.St} {G H : Hp} {ta : TE} {d : PyData}
theorem ev_isi {T : String} {b : Bool} (h : EvD ta σ G H d) (hb : kitB (tyN d) T = some b) : EvD (tCB (rIsi K) (tCons ta (tCons (tC (.ty T)) tNil))) σ G H (.bool b) := fun G1 H1 a Q q =>
  h G1 H1 a _ fun v G2 H2 g x => ⟨v, .ty T, .type (tyN d), .type T, b, rfl, .ty T, dx_ty g.s x, kit_ty hb, q _ G2 H2 g (.bl _)⟩
theorem ev_isiT2 {T U : String} {b c : Bool} (h : EvD ta σ G H d) (hb : kitB (tyN d) T = some b) (hc : kitB (tyN d) U = some c) :
    EvD (tCB (rIsiT K) (tCons ta (tCons (tTup (tCons (tC (.ty T)) (tCons (tC (.ty U)) tNil))) tNil))) σ G H (.bool (b || c)) := fun G1 H1 a Q q =>
  h G1 H1 a _ fun v G2 H2 g x => ⟨by show 2 ≤ sizeLine; decide, fun p hp => ⟨v, p, [.ty T, .ty U], .type (tyN d), [.type T, .type U], b || c, rfl, upd_same, .cons (.ty T) (.cons (.ty U) .nil),
    dx_ty (Sb.new hp) (x.mono g.s), kitAny_cons (kit_ty hb) (fun e => kitAny_cons (kit_ty hc) (fun e2 => by rw [e, e2]; rfl) (fun e2 => by rw [e, e2]; rfl)) (fun e => by rw [e]; rfl),
    q _ G2 _ (g.own hp) (.bl _)⟩⟩
end
theorem kit_NoneType_bool : kitB "NoneType" "bool" = some false := by decide +kernel
theorem kit_NoneType_int : kitB "NoneType" "int" = some false := by decide +kernel
theorem kit_NoneType_str : kitB "NoneType" "str" = some false := by decide +kernel
theorem kit_NoneType_list : kitB "NoneType" "list" = some false := by decide +kernel
theorem kit_NoneType_tuple : kitB "NoneType" "tuple" = some false := by decide +kernel
theorem kit_bool_bool : kitB "bool" "bool" = some true := by decide +kernel
theorem kit_bool_int : kitB "bool" "int" = some true := by decide +kernel
theorem kit_bool_str : kitB "bool" "str" = some false := by decide +kernel
theorem kit_bool_list : kitB "bool" "list" = some false := by decide +kernel
theorem kit_bool_tuple : kitB "bool" "tuple" = some false := by decide +kernel
theorem kit_int_bool : kitB "int" "bool" = some false := by decide +kernel
theorem kit_int_int : kitB "int" "int" = some true := by decide +kernel
theorem kit_int_str : kitB "int" "str" = some false := by decide +kernel
theorem kit_int_list : kitB "int" "list" = some false := by decide +kernel
theorem kit_int_tuple : kitB "int" "tuple" = some false := by decide +kernel
theorem kit_str_bool : kitB "str" "bool" = some false := by decide +kernel
theorem kit_str_int : kitB "str" "int" = some false := by decide +kernel
theorem kit_str_str : kitB "str" "str" = some true := by decide +kernel
theorem kit_str_list : kitB "str" "list" = some false := by decide +kernel
theorem kit_str_tuple : kitB "str" "tuple" = some false := by decide +kernel
theorem kit_list_bool : kitB "list" "bool" = some false := by decide +kernel
theorem kit_list_int : kitB "list" "int" = some false := by decide +kernel
theorem kit_list_str : kitB "list" "str" = some false := by decide +kernel
theorem kit_list_list : kitB "list" "list" = some true := by decide +kernel
theorem kit_list_tuple : kitB "list" "tuple" = some false := by decide +kernel
theorem kit_tuple_bool : kitB "tuple" "bool" = some false := by decide +kernel
theorem kit_tuple_int : kitB "tuple" "int" = some false := by decide +kernel
theorem kit_tuple_str : kitB "tuple" "str" = some false := by decide +kernel
theorem kit_tuple_list : kitB "tuple" "list" = some false := by decide +kernel
theorem kit_tuple_tuple : kitB "tuple" "tuple" = some true := by decide +kernel
/-! ### texts -/
theorem rd_leS {y z : Str} : RD (fun x y H Q => ∃ i j, x = .str i ∧ y = .str j ∧ Q (.bl (!decide (j.cps.toList < i.cps.toList))) H) (.str y) (.str z) (.bool (!decide (z.cps.toList < y.cps.toList))) := fun G1 _ _ _ s hx hy _ q =>
  ⟨y, z, hx.str_eq, hy.str_eq, q _ G1 _ (.refl s) (.bl _)⟩
theorem rd_ltS {y z : Str} : RD (fun x y H Q => ∃ i j, x = .str i ∧ y = .str j ∧ Q (.bl (decide (i.cps.toList < j.cps.toList))) H) (.str y) (.str z) (.bool (decide (y.cps.toList < z.cps.toList))) := fun G1 _ _ _ s hx hy _ q =>
  ⟨y, z, hx.str_eq, hy.str_eq, q _ G1 _ (.refl s) (.bl _)⟩
theorem rd_InC {c : Nat} {z : Str} : RD (fun x y H Q => ∃ (c : Nat) (z : Str), x = .str ⟨#[c]⟩ ∧ y = .str z ∧ Q (.bl (decide (c ∈ z.cps.toList))) H) (.str ⟨#[c]⟩) (.str z) (.bool (decide (c ∈ z.cps.toList))) := fun G1 _ _ _ s hx hy _ q =>
  ⟨c, z, hx.str_eq, hy.str_eq, q _ G1 _ (.refl s) (.bl _)⟩
def repS (z : Str) (n : Int) : Str := if (n == 1 || z.length == 0) = true then z else ⟨(List.replicate n.toNat z.cps).foldl (· ++ ·) #[]⟩
theorem rep_size (a : Array Nat) : ∀ (k : Nat) (acc : Array Nat), ((List.replicate k a).foldl (· ++ ·) acc).size = acc.size + k * a.size
  | 0, acc => by simp
  | k + 1, acc => by
    rw [List.replicate_succ, List.foldl_cons, rep_size a k, Array.size_append, Nat.succ_mul]; omega
theorem repS_len {z : Str} {n : Int} (h : 1 ≤ n) : (repS z n).length = z.length * n.toNat := by
  unfold repS
  split
  · rename_i h2
    rw [Bool.or_eq_true] at h2
    rcases h2 with h2 | h2
    · have e : n = 1 := by simpa using h2
      subst e; simp
    · have e : z.length = 0 := by simpa using h2
      rw [e]; simp
  · show ((List.replicate n.toNat z.cps).foldl (· ++ ·) #[]).size = z.cps.size * n.toNat
    rw [rep_size]; simp [Nat.mul_comm]
theorem repS_mem {z : Str} {n : Int} {P : Nat → Prop} (h : ∀ c ∈ z.cps.toList, P c) : ∀ c ∈ (repS z n).cps.toList, P c := by
  have go : ∀ (k : Nat) (acc : Array Nat), (∀ c ∈ acc.toList, P c) → ∀ c ∈ ((List.replicate k z.cps).foldl (· ++ ·) acc).toList, P c := by
    intro k
    induction k with
    | zero => intro acc ha c hc; exact ha c hc
    | succ k ih =>
      intro acc ha c hc
      rw [List.replicate_succ, List.foldl_cons] at hc
      refine ih _ (fun c hc => ?_) c hc
      rw [Array.toList_append] at hc
      rcases List.mem_append.mp hc with h1 | h1
      · exact ha c h1
      · exact h c h1
  unfold repS
  split
  · exact h
  · exact go _ _ (by simp)
def rRepS : R2 := fun x y H Q => ∃ (z : Str) (n : Int), x = .str z ∧ y = .int n ∧ (1 ≤ n ∧ n ≤ 1000 ∧ z.length ≤ 1000) ∧ Q (.str (repS z n)) H
theorem op_repS {X : Cx} : OpR X (binaryOp .Mult) rRepS := by
  intro pins s σ H x y v u Q I rx ry h
  obtain ⟨z, n, rfl, rfl, ⟨h1, h2, h3⟩, q⟩ := h
  obtain ⟨t, rfl⟩ := rx
  obtain ⟨t', rfl⟩ := ry
  have e1 : decide (n < -(2 ^ 63 : Int)) = false := decide_eq_false (by omega)
  have e2 : decide (n ≥ (2 ^ 63 : Int)) = false := decide_eq_false (by omega)
  have hm : z.length * n.toNat ≤ 1000 * 1000 := Nat.mul_le_mul h3 (by omega)
  refine PySem.P.mul_str (by rw [e1, e2]; rfl) (fun _ _ => ?_) (fun _ _ => ?_) ?_
  · have h4 : (2 ^ 63 - 1 : Int) / n ≥ 1000 := by
      refine Int.le_ediv_of_mul_le (by omega) ?_
      have : (1000 : Int) * n ≤ 1000 * 1000 := by omega
      omega
    omega
  · unfold PySem.Builtin.Str.tooLong
    exact decide_eq_false (by have : (sizeLine : Nat) ≥ 1000000 := by decide
                              omega)
  · rw [if_neg (by omega)]
    by_cases e : (n == 1 || z.length == 0) = true
    · rw [if_pos e]
      have er : repS z n = z := if_pos e
      rw [er] at q
      exact ⟨.str z, H, I, ⟨_, rfl⟩, q⟩
    · rw [if_neg e]
      have eq : repS z n = ⟨(List.replicate n.toNat z.cps).foldl (· ++ ·) #[]⟩ := if_neg e
      rw [eq] at q
      have el := repS_len (z := z) h1
      rw [eq] at el
      exact ⟨by rw [el]; exact Nat.le_trans hm (by decide), .str _, H, I.tok _, ⟨_, rfl⟩, q⟩
theorem rd_repS {z : Str} {n : Int} (h : 1 ≤ n ∧ n ≤ 1000 ∧ z.length ≤ 1000) : RD rRepS (.str z) (.int n) (.str (repS z n)) := fun G1 _ _ _ s hx hy _ q =>
  ⟨z, n, hx.str_eq, hy.int_eq, h, q _ G1 _ (.refl s) (.str _)⟩
/-- a text walked by a comprehension -/
theorem lc_str {z : Str} {g : TG} {tt : TT} {te : TE} {vs : List Nat} {σ : L2.St} {H1 : Hp} {D : Addr} {Qd : Hp → Prop} (Pv : Nat → Hp → Prop) (h0 : Pv 0 (upd H1 D (.lst [])))
    (hs : ∀ i c H, z.cps[i]? = some c → Pv i H → g (.str ⟨#[c]⟩) (wipe σ vs) H fun σ2 H2 => wipe σ2 vs = wipe σ vs ∧ tt σ2 H2 fun b H3 =>
      if b = true then te σ2 H3 fun y H4 => ∃ acc, H4 D = some (.lst acc) ∧ acc.length < sizeLine ∧ Pv (i + 1) (upd H4 D (.lst (acc ++ [y]))) else Pv (i + 1) H3) (hd : ∀ H, Pv z.cps.size H → Qd H) :
    ∃ W : Nat → Nat → Hp → Prop, (∃ m, W 0 m (upd H1 D (.lst []))) ∧ ∀ i m H, W i m H →
      ((Its z).stop i H ∧ Qd H) ∨ ((Its z).go i H ∧ ∃ Nx : Hp → Prop, (∀ H', Nx H' → ∃ m', m' < m ∧ W (i + 1) m' H') ∧ ∀ x H', (Its z).yld i H x H' → g x (wipe σ vs) H' fun σ2 H2 => wipe σ2 vs = wipe σ vs ∧ tt σ2 H2 fun b H3 =>
        if b = true then te σ2 H3 fun y H4 => ∃ acc, H4 D = some (.lst acc) ∧ acc.length < sizeLine ∧ Nx (upd H4 D (.lst (acc ++ [y]))) else Nx H3) := by
  refine ⟨fun i m H => m = z.cps.size - i ∧ i ≤ z.cps.size ∧ Pv i H, ⟨z.cps.size, by simp, Nat.zero_le _, h0⟩, ?_⟩
  rintro i m H ⟨rfl, hi, p⟩
  by_cases hlt : i < z.cps.size
  · refine Or.inr ⟨hlt, Pv (i + 1), fun H' p' => ⟨z.cps.size - (i + 1), by omega, rfl, hlt, p'⟩, fun x H' y => ?_⟩
    obtain ⟨rfl, c, hc, rfl⟩ := y
    exact hs i c _ hc p
  · have e : i = z.cps.size := by omega
    subst e
    exact Or.inl ⟨Nat.le_refl _, hd H p⟩
section
variable {K : PySem.W.Frag} {σ : L2.St} {G H : Hp} {ta te : TE} {tt : TT} {d : PyData}
theorem ev_lcS {tl : TE} {z : Str} {j : Nat} {vs : List Nat} (f : Nat → Bool) (v : Nat → PyData) (h : EvD tl σ G H (.str z)) (hz : z.length ≤ 40000) (hw : ∀ x, wipe ((wipe σ vs).set j (some x)) vs = wipe σ vs)
    (ht : ∀ (i : Nat) (c : Nat), z.cps[i]? = some c → EvT tt ((wipe σ vs).set j (some (.str ⟨#[c]⟩))) G H (f i)) (he : ∀ (i : Nat) (c : Nat), z.cps[i]? = some c → f i = true → EvD te ((wipe σ vs).set j (some (.str ⟨#[c]⟩))) G H (v i)) :
    EvM (tLc (iStr tl) (gName j) tt te vs) σ G H (given z.length f v) := fun G0 H0 a Q q => h G0 H0 a _ fun u G1 H1 g1 x => by
  have hz' : z.cps.size ≤ 40000 := hz
  have gg := a.trans g1
  refine ⟨z, x.str_eq, fun l hl => lc_str (z := z) (Cw G1 H1 f v l) ⟨G1, [], (Gr.refl g1.s).own hl, g1.s.none hl, upd_same, by exact .nil⟩ (fun i c H' hc p => ?_) (fun H' p => ?_)⟩
  · have hi : i < z.cps.size := (Array.getElem?_eq_some_iff.mp hc).1
    exact ⟨hw _, cw_turn hl p (by omega) ((ht i c hc).mono gg) (fun hf => (he i c hc hf).mono gg)⟩
  · obtain ⟨G', xs, k1, k2, k3, k4⟩ := p
    exact q l xs G' H' (g1.trans k1) (g1.free hl) k2 k3 k4
end
theorem cd_all' {K : PySem.W.Frag} {ds : List PyData} {bs : List Bool} (h : ds = bs.map .bool) : CD (rAll K) [.list ds] (.bool (bs.all id)) := by rw [h]; exact cd_all
/-! promises whose value is one of several -/
def SpR {α : Type} (args : α → List PyData) (pre : α → Prop) (R : α → PyData → Prop) : Sp := fun vs H Q _ => ∃ G x, Sb G H ∧ Dxs G vs (args x) ∧ pre x ∧ ∀ v d G' H', Gr [] G H G' H' → R x d → Dx G' v d → Q v H'
theorem ev_callR {σ : L2.St} {G H : Hp} {E : XK} {t : TA} {α : Type} {args : α → List PyData} {pre : α → Prop} {R : α → PyData → Prop} (x : α) (h : EvA t σ G H (args x)) (hp : pre x) : EvP (tCall (SpR args pre R) [] E t) σ G H (R x) := fun G1 H1 a Q q =>
  h G1 H1 a _ fun vs G2 H2 g xs => ⟨G2, x, g.s, by rw [List.append_nil]; exact xs, hp, fun v d G3 H3 g3 r z => q v d G3 H3 (g.trans g3) r z⟩

/-! ### the rules with the written part said -/
section
variable {X : Cx} {K : PySem.W.Frag}
theorem ix_listK (h : X.K = K := by rfl) : IxR X (rIxL K) := by subst h; exact ix_list
theorem ix_tupK (h : X.K = K := by rfl) : IxR X (rIxT K) := by subst h; exact ix_tup
theorem ix_seqK (h : X.K = K := by rfl) : IxR X (rIx K) := by subst h; exact ix_seq
theorem op_eqDK (hu : X.A.units + 64 < cLine) (h : X.K = K := by rfl) : OpR X (compareOp .Eq) (rEqD K) := by subst h; exact op_eqD hu
theorem op_neDK (hu : X.A.units + 64 < cLine) (h : X.K = K := by rfl) : OpR X (compareOp .NotEq) (rNeD K) := by subst h; exact op_neD hu
theorem op_inK (h : X.K = K := by rfl) : OpR X (compareOp .In) (rIn K false) := by subst h; exact op_in_seq
theorem op_ninK (h : X.K = K := by rfl) : OpR X (compareOp .NotIn) (rIn K true) := by subst h; exact op_notIn_seq
theorem sl_listK (h : X.K = K := by rfl) : SlR X (rSlL K) := by subst h; exact sl_list
theorem cr_sumK (hc : X.calm = true) (h : X.K = K := by rfl) : CallR X (.builtin "sum") (rSum K) := by subst h; exact cr_sum hc
theorem cr_allK (hc : X.calm = true) (h : X.K = K := by rfl) : CallR X (.builtin "all") (rAll K) := by subst h; exact cr_all hc
theorem call_lenK (h : X.K = K := by rfl) : CallR X (.builtin "len") (fun xs H Q => ∃ p ys, xs = [.ref p] ∧ (SqL K H p ys ∨ SqT K H p ys) ∧ Q (.int ys.length) H) := by subst h; exact call_len_seq
theorem call_listK (h : X.K = K := by rfl) : CallR X (.type "list") (fun xs H Q => ∃ p ys, xs = [.ref p] ∧ (SqL K H p ys ∨ SqT K H p ys) ∧ ∀ l, H l = none → Q (.ref l) (upd H l (.lst ys))) := by subst h; exact call_list_of
theorem call_isiKK (h : X.K = K := by rfl) : CallR X (.builtin "isinstance") (rIsi K) := by subst h; exact call_isi
theorem call_isiTK (h : X.K = K := by rfl) : CallR X (.builtin "isinstance") (rIsiT K) := by subst h; exact call_isiT
end
theorem rd_isN {d : PyData} : RD (fun x y H Q => y = .non ∧ Q (.bl (decide (x = .non))) H) d .none (.bool (isNone d)) := fun G1 _ x y s hx hy _ q => by
  have e : decide (x = V.non) = isNone d := by cases hx <;> rfl
  refine ⟨hy.non_eq, ?_⟩
  rw [e]; exact q _ G1 _ (.refl s) (.bl _)
theorem rd_notN {d : PyData} : RD (fun x y H Q => y = .non ∧ Q (.bl (!decide (x = .non))) H) d .none (.bool (!isNone d)) := fun G1 _ x y s hx hy _ q => by
  have e : decide (x = V.non) = isNone d := by cases hx <;> rfl
  refine ⟨hy.non_eq, ?_⟩
  rw [e]; exact q _ G1 _ (.refl s) (.bl _)

/-! ### enumerate, targets that are tuples -/
section
variable {K : PySem.W.Frag} {σ : L2.St} {G H : Hp} {tz tu : TS} {D : Ends}
theorem g_nn {i j : Nat} {v : V} {d1 d2 : PyData} {Q : L2.St → Hp → Prop} (x : Dx G v (.tuple [d1, d2])) (s : Sb G H) (k : ∀ v1 v2, Dx G v1 d1 → Dx G v2 d2 → Q ((σ.set i (some v1)).set j (some v2)) H) : gTup K 2 (gCons (gName i) (gCons (gName j) gNil)) v σ H Q := by
  obtain ⟨a, xs, rfl, ha, dxs⟩ := x.tup_eq
  obtain ⟨v1, v2, rfl, h1, h2⟩ := dxs2 dxs
  exact ⟨a, [v1, v2], rfl, Or.inl (Or.inl (s _ _ ha)), rfl, v1, [v2], rfl, v2, [], rfl, rfl, k v1 v2 h1 h2⟩
theorem g_n_nn {i j l : Nat} {v : V} {d1 d2 d3 : PyData} {Q : L2.St → Hp → Prop} (x : Dx G v (.tuple [d1, .tuple [d2, d3]])) (s : Sb G H) (k : ∀ v1 v2 v3, Dx G v1 d1 → Dx G v2 d2 → Dx G v3 d3 → Q (((σ.set i (some v1)).set j (some v2)).set l (some v3)) H) :
    gTup K 2 (gCons (gName i) (gCons (gTup K 2 (gCons (gName j) (gCons (gName l) gNil))) gNil)) v σ H Q := by
  obtain ⟨a, xs, rfl, ha, dxs⟩ := x.tup_eq
  obtain ⟨v1, v2, rfl, h1, h2⟩ := dxs2 dxs
  obtain ⟨b, ys, rfl, hb, dys⟩ := h2.tup_eq
  obtain ⟨w1, w2, rfl, k1, k2⟩ := dxs2 dys
  exact ⟨a, [v1, .ref b], rfl, Or.inl (Or.inl (s _ _ ha)), rfl, v1, [.ref b], rfl, .ref b, [], rfl, ⟨b, [w1, w2], rfl, Or.inl (Or.inl (s _ _ hb)), rfl, w1, [w2], rfl, w2, [], rfl, rfl, rfl, k v1 w1 w2 h1 k1 k2⟩⟩
theorem for_enum {a : Addr} {xs : List V} {g : TG} {tb : TS} {D : Ends} {σ : L2.St} {H : Hp} (Pv : Nat → L2.St → Hp → Prop) (h0 : Pv 0 σ H) (hl : ∀ i σ H, i ≤ xs.length → Pv i σ H → SqL K H a xs)
    (hs : ∀ i x σ H T, xs[i]? = some x → Pv i σ H → H T = none → g (.ref T) σ (upd H T (.tup [.int (i : Nat), x])) fun σ2 H2 => tb { D with nx := Pv (i + 1), ct := Pv (i + 1), bk := D.nx } σ2 H2) (hd : ∀ σ H, Pv xs.length σ H → D.nx σ H) :
    ∃ W : Nat → Nat → L2.St → Hp → Prop, (∃ m, W 0 m σ H) ∧ ∀ i m σ H, W i m σ H →
      ((Ite K a).stop i H ∧ D.nx σ H) ∨ ((Ite K a).go i H ∧ ∃ N : L2.St → Hp → Prop, (∀ σ' H', N σ' H' → ∃ m', m' < m ∧ W (i + 1) m' σ' H') ∧ ∀ x H', (Ite K a).yld i H x H' → g x σ H' fun σ2 H2 => tb { D with nx := N, ct := N, bk := D.nx } σ2 H2) := by
  refine ⟨fun i m σ H => m = xs.length - i ∧ i ≤ xs.length ∧ Pv i σ H, ⟨xs.length, by simp, Nat.zero_le _, h0⟩, ?_⟩
  rintro i m σ H ⟨rfl, hi, p⟩
  have q := hl i σ H hi p
  by_cases hlt : i < xs.length
  · refine Or.inr ⟨⟨xs, xs[i], q, by simp [hlt]⟩, Pv (i + 1), fun σ' H' p' => ⟨xs.length - (i + 1), by omega, rfl, hlt, p'⟩, fun x H' y => ?_⟩
    obtain ⟨T, u, rfl, hT, rfl, hu⟩ := y
    exact hs i u σ H T (hu xs q) p hT
  · have e : i = xs.length := by omega
    subst e
    exact Or.inl ⟨⟨xs, q, Nat.le_refl _⟩, hd σ H p⟩
theorem s_forE {t : TA} {g : TG} {ds : List PyData} (M : List Addr) (I : Nat → L2.St → Hp → Hp → Prop) (h : EvA t σ G H [.list ds]) (s : Sb G H) (h0 : ∀ G1 H1, Gr [] G H G1 H1 → I 0 σ G1 H1)
    (hs : ∀ G1 H1, Gr [] G H G1 H1 → ∀ (n : Nat) d v σ' G' H' G2 H2, ds[n]? = some d → Gr M G1 H1 G' H' → I n σ' G' H' → Gr [] G' H' G2 H2 → Dx G2 v (.tuple [.int (n : Int), d]) → g v σ' H2 fun σ2 H3 => tu { D with nx := Nx M G1 H1 I (n + 1), ct := Nx M G1 H1 I (n + 1), bk := D.nx } σ2 H3)
    (hd : ∀ σ' G' H', Gr M G H G' H' → I ds.length σ' G' H' → D.nx σ' H') : tFor (iEnum K t) g tu D σ H :=
  h G H (.refl s) _ fun vs G1 H1 g1 x => by
    obtain ⟨v, rfl, hv⟩ := dxs1 x
    obtain ⟨a, xs, rfl, ha, dxs⟩ := hv.lst_eq
    refine ⟨a, xs, rfl, Or.inl (Or.inl (g1.s _ _ ha)), for_enum (xs := xs) (Nx M G1 H1 I) ⟨G1, .refl g1.s, h0 G1 H1 g1⟩ (fun n σ' H' _ p => ?_) (fun n x σ' H' T hx p hT => ?_) (fun σ' H' p => ?_)⟩
    · obtain ⟨G', g', _⟩ := p
      exact Or.inl (Or.inl (g'.s _ _ (g'.g _ _ ha)))
    · obtain ⟨G', g', w⟩ := p
      obtain ⟨d, hd1, hd2⟩ := dxs.getV hx
      have hn := g'.s.none hT
      refine hs G1 H1 g1 n d (.ref T) σ' G' H' (upd G' T (.tup [.int (n : Nat), x])) _ hd1 g' w ((Gr.refl g'.s).data hT) (.tup upd_same (.cons (.int _) (.cons ?_ .nil)))
      exact (hd2.mono g'.g).mono (Sb.new hn)
    · obtain ⟨G', g', w⟩ := p
      rw [dxs.len] at w
      exact hd σ' G' H' (g1.any.trans g') w
theorem q_forE {t : TA} {g : TG} {ds : List PyData} (M : List Addr) (I : Nat → L2.St → Hp → Hp → Prop) (h : EvA t σ G H [.list ds]) (s : Sb G H) (h0 : ∀ G1 H1, Gr [] G H G1 H1 → I 0 σ G1 H1)
    (hs : ∀ G1 H1, Gr [] G H G1 H1 → ∀ (n : Nat) d v σ' G' H' G2 H2, ds[n]? = some d → Gr M G1 H1 G' H' → I n σ' G' H' → Gr [] G' H' G2 H2 → Dx G2 v (.tuple [.int (n : Int), d]) → g v σ' H2 fun σ2 H3 => tu { D with nx := Nx M G1 H1 I (n + 1), ct := Nx M G1 H1 I (n + 1), bk := tz D } σ2 H3)
    (hd : ∀ σ' G' H', Gr M G H G' H' → I ds.length σ' G' H' → tz D σ' H') : tSeq (tFor (iEnum K t) g tu) tz D σ H := s_forE (D := { D with nx := tz D }) M I h s h0 hs hd
end

/-! ### several own objects become data at once -/
open Classical in
noncomputable def addAll (S : Addr → Prop) (G H : Hp) : Hp := fun a => if S a then H a else G a
theorem addAll_in {S : Addr → Prop} {G H : Hp} {a : Addr} (h : S a) : addAll S G H a = H a := if_pos h
theorem addAll_out {S : Addr → Prop} {G H : Hp} {a : Addr} (h : ¬ S a) : addAll S G H a = G a := if_neg h
theorem Sb.addAll {S : Addr → Prop} {G H : Hp} (h : ∀ a, S a → G a = Option.none) : Sb G (addAll S G H) := fun a o e => by
  by_cases q : S a
  · rw [h a q] at e; cases e
  · rw [addAll_out q]; exact e
theorem Gr.freezeAll {M : List Addr} {G H G' H' : Hp} (x : Gr M G H G' H') (S : Addr → Prop) (hn : ∀ a, S a → G' a = none) (h0 : ∀ a, S a → H a = none) : Gr M G H (addAll S G' H') H' :=
  ⟨x.g.trans (Sb.addAll hn), fun a o e => by
    by_cases q : S a
    · rw [addAll_in q] at e; exact e
    · rw [addAll_out q] at e; exact x.s a o e, x.h, x.t, fun a u e e0 => by
    by_cases q : S a
    · rw [h0 a q] at e; cases e
    · rw [addAll_out q]; exact x.n a u e e0⟩
/-- data for a while, several objects -/
theorem Gr.thawAll {M : List Addr} {S : Addr → Prop} {G H G2 H2 : Hp} (x : Gr M (addAll S G H) H G2 H2) (hn : ∀ a, S a → G a = none) : Gr M G H G H2 :=
  ⟨Sb.refl G, ((Sb.addAll hn).trans x.g).trans x.s, x.h, x.t, fun _ _ _ e => e⟩
section
variable {K : PySem.W.Frag} {σ : L2.St} {G H : Hp}
theorem ea_star {te : TE} {tr : TA} {ds es : List PyData} (h : EvD te σ G H (.list ds)) (hr : EvA tr σ G H es) : EvA (StX.tStar K te tr) σ G H (ds ++ es) := fun G1 H1 a _ q =>
  h G1 H1 a _ fun v G2 H2 g x => by
    obtain ⟨p, xs, rfl, hp, dxs⟩ := x.lst_eq
    exact ⟨p, xs, rfl, Or.inr (Or.inl (Or.inl (g.s _ _ hp))), hr G2 H2 (a.trans g) _ fun vs G3 H3 g3 ys => q _ G3 H3 (g.trans g3) ((dxs.mono g3.g).app ys)⟩
theorem inV_str {z : Str} : ∀ zs : List Str, inV (.str z) (zs.map V.str) = decide (z ∈ zs)
  | [] => by simp [inV]
  | y :: ys => by
    have ih := inV_str (z := z) ys
    unfold inV at ih ⊢
    rw [List.map_cons, List.any_cons, ih]
    have e : eqV (V.str y) (V.str z) = decide (y = z) := by
      show (y == z) = decide (y = z)
      rfl
    rw [e]
    by_cases h : y = z
    · subst h; simp
    · simp [h, Ne.symm h]
      first
        | done
        | (intro h2; exact absurd h2.symm h)
theorem all_flat : ∀ zs : List Str, (zs.map V.str).all flatV = true
  | [] => rfl
  | y :: ys => by rw [List.map_cons, List.all_cons, all_flat ys]; rfl
theorem rd_InL {z : Str} {zs : List Str} : RD (rIn K false) (.str z) (.list (zs.map .str)) (.bool (decide (z ∈ zs))) := fun G1 H1 x y s hx hy Q q => by
  obtain ⟨a, xs, rfl, ha, dxs⟩ := hy.lst_eq
  rw [dxs.strs_eq] at ha
  rw [hx.str_eq]
  refine ⟨a, _, rfl, Or.inl (Or.inl (Or.inl (s _ _ ha))), rfl, all_flat zs, ?_⟩
  show Q (.bl (inV (.str z) (zs.map V.str))) H1
  rw [inV_str]; exact q _ G1 H1 (.refl s) (.bl _)
end

section
variable {K : PySem.W.Frag} {σ : L2.St} {B C G H : Hp} {te tb : TE} {ds es : List PyData} {D : Ends} {tz : TS} {i : Nat} {l : Addr} {xs : List V}
theorem et_truL (h : EvD te σ G H (.list ds)) : EvT (fun σ H Q => te σ H fun x H' => ∃ k, TruV K x H' k ∧ Q k H') σ G H (!ds.isEmpty) := fun G1 H1 a Q q =>
  h G1 H1 a _ fun v G2 H2 g x => by
    obtain ⟨p, xs, rfl, hp, dxs⟩ := x.lst_eq
    refine ⟨!ds.isEmpty, Or.inl ⟨xs, Or.inl (Or.inl (g.s _ _ hp)), ?_⟩, q G2 H2 g⟩
    have := dxs.len
    cases xs <;> cases ds <;> first | rfl | cases this
/-- xs.append(e), e a new list that stays own -/
theorem s_appM (o : Ow B C G H l xs) (hv : σ[i]? = some (some (.ref l))) (h : EvM te σ G H ds) (hz : xs.length < 100000)
    (k : ∀ q ys G1 H1, Gr [] G H G1 H1 → H q = none → G1 q = none → H1 q = some (.lst ys) → Dxs G1 ys ds → Ow B C G1 (upd H1 l (.lst (xs ++ [.ref q]))) l (xs ++ [.ref q]) → D.nx σ (upd H1 l (.lst (xs ++ [.ref q])))) :
    tDrop (tBM K "list" rAppend (tVar i) (tCons te tNil)) D σ H :=
  ⟨.ref l, hv, Or.inl ⟨rfl, xs, Or.inl (Or.inl o.hl)⟩, h G H (.refl o.s) _ fun q ys G1 H1 g h0 hn h1 hx =>
    ⟨l, xs, .ref q, rfl, rfl, g.h l _ (by simp) o.hl, Evl.sz_lt hz, k q ys G1 H1 g h0 hn h1 hx (o.put g _)⟩⟩
theorem s_retLM (h : EvM te σ G H ds) (s : Sb G H) (k : ∀ q ys G1 H1 l, Gr [] G H G1 H1 → H q = none → G1 q = none → H1 q = some (.lst ys) → Dxs G1 ys ds → H1 l = none → D.rt (.ref l) (upd H1 l (.lst [.ref q]))) : tRet (tLst (tCons te tNil)) D σ H :=
  h G H (.refl s) _ fun q ys G1 H1 g q0 qn hq hx => ⟨by show 1 ≤ sizeLine; decide, fun l hl => k q ys G1 H1 l g q0 qn hq hx hl⟩
/-- own list + list -/
theorem ev_catO (h : σ[i]? = some (some (.ref l))) (hl : H l = some (.lst xs)) (hx : Dxs G xs ds) (hb : EvD tb σ G H (.list es)) (hz : ds.length + es.length ≤ 100000) : EvM (tOp rCat (tVar i) tb) σ G H (ds ++ es) := fun G1 H1 a Q q =>
  ⟨.ref l, h, hb G1 H1 a _ fun v G2 H2 g x => by
    obtain ⟨p, ys, rfl, hp, dys⟩ := x.lst_eq
    have dxs := hx.mono (a.trans g).g
    exact ⟨l, p, xs, ys, rfl, rfl, (a.trans g).h l _ (by simp) hl, g.s _ _ hp, Evl.sz_of (by rw [dxs.len, dys.len]; exact hz), fun r hr => q r _ G2 _ (g.own hr) (g.free hr) (g.s.none hr) upd_same (dxs.app dys)⟩⟩
end
theorem paired_app {α β : Type} {F : α → β → Prop} : ∀ {a c : List α} {b d : List β}, Paired F a b → Paired F c d → Paired F (a ++ c) (b ++ d)
  | _, _, _, _, .nil, t => t
  | _, _, _, _, .cons h t, u => .cons h (paired_app t u)
theorem paired_mono {α β : Type} {F E : α → β → Prop} (h : ∀ a b, F a b → E a b) : ∀ {a : List α} {b : List β}, Paired F a b → Paired E a b
  | _, _, .nil => .nil
  | _, _, .cons r t => .cons (h _ _ r) (paired_mono h t)
theorem given_list {α β : Type} (L : List α) (d : α) (φ : α → Bool) (ψ : α → β) : given L.length (fun i => φ (L.getD i d)) (fun i => ψ (L.getD i d)) = (L.filter φ).map ψ := by
  have e : (List.range L.length).map (fun i => L.getD i d) = L := by
    apply List.ext_getElem
    · simp
    · intro i h1 h2
      simp only [List.getElem_map, List.getElem_range]
      rw [List.getD_eq_getElem?_getD, List.getElem?_eq_getElem h2]; rfl
  have e2 : L.filter φ = ((List.range L.length).filter (φ ∘ fun i => L.getD i d)).map (fun i => L.getD i d) := by
    conv => lhs; rw [← e]
    rw [List.filter_map]
  unfold given
  rw [e2, List.map_map]
  rfl

section
variable {K : PySem.W.Frag} {σ : L2.St} {G H : Hp} {tz tu : TS} {D : Ends} {ds : List PyData}
/-- over a list that a name holds -/
theorem q_forV {g : TG} {i : Nat} {v : V} (M : List Addr) (I : Nat → L2.St → Hp → Hp → Prop) (hv : σ[i]? = some (some v)) (x : Dx G v (.list ds)) (s : Sb G H) (h0 : I 0 σ G H)
    (hs : ∀ n d v σ' G' H', ds[n]? = some d → Dx G' v d → Gr M G H G' H' → I n σ' G' H' → g v σ' H' fun σ2 H2 => tu { D with nx := Nx M G H I (n + 1), ct := Nx M G H I (n + 1), bk := tz D } σ2 H2)
    (hd : ∀ σ' G' H', Gr M G H G' H' → I ds.length σ' G' H' → tz D σ' H') : tSeq (tFor (iList K (tVar i)) g tu) tz D σ H := by
  obtain ⟨a, xs, rfl, ha, dxs⟩ := x.lst_eq
  refine ⟨.ref a, hv, a, rfl, ⟨xs, Or.inl (Or.inl (s _ _ ha))⟩, for_list (xs := xs) (Nx M G H I) ⟨G, .refl s, h0⟩ (fun n σ' H' _ p => ?_) (fun n x σ' H' hx p => ?_) (fun σ' H' p => ?_)⟩
  · obtain ⟨G', g', _⟩ := p
    exact Or.inl (Or.inl (g'.s _ _ (g'.g _ _ ha)))
  · obtain ⟨G', g', w⟩ := p
    obtain ⟨d, hd1, hd2⟩ := dxs.getV hx
    exact hs n d x σ' G' H' hd1 (hd2.mono g'.g) g' w
  · obtain ⟨G', g', w⟩ := p
    rw [dxs.len] at w
    exact hd σ' G' H' g' w
end

section
variable {K : PySem.W.Frag} {σ : L2.St} {B C G H : Hp} {te : TE} {ds : List PyData} {D : Ends} {tz : TS} {i : Nat} {l : Addr} {xs : List V}
theorem q_appM (o : Ow B C G H l xs) (hv : σ[i]? = some (some (.ref l))) (h : EvM te σ G H ds) (hz : xs.length < 100000)
    (k : ∀ q ys G1 H1, Gr [] G H G1 H1 → H q = none → G1 q = none → H1 q = some (.lst ys) → Dxs G1 ys ds → Ow B C G1 (upd H1 l (.lst (xs ++ [.ref q]))) l (xs ++ [.ref q]) → tz D σ (upd H1 l (.lst (xs ++ [.ref q])))) :
    tSeq (tDrop (tBM K "list" rAppend (tVar i) (tCons te tNil))) tz D σ H := s_appM (D := { D with nx := tz D }) o hv h hz k
/-- xs[0].append(c), xs an own list of own lists -/
theorem q_app0 {q : Addr} {rest ys : List V} {c : V} (hv : σ[i]? = some (some (.ref l))) (hl : H l = some (.lst (.ref q :: rest))) (hq : H q = some (.lst ys)) (hz : ys.length < 100000)
    (k : tz D σ (upd H q (.lst (ys ++ [c])))) : tSeq (tDrop (tBM K "list" rAppend (tOp (rIxL K) (tVar i) (tC (.int 0))) (tCons (tC c) tNil))) tz D σ H :=
  ⟨.ref l, hv, l, _, 0, .ref q, rfl, rfl, Or.inl (Or.inl hl), atI_nat (j := 0) rfl, Or.inl ⟨rfl, _, Or.inl (Or.inl hq)⟩, q, ys, c, rfl, rfl, hq, Evl.sz_lt hz, k⟩
end
end Gd

namespace My
open PySem L2 Gd
def top (i : Nat) : Stmt := PySem.Challenge.pw_allonge_k01_names.main.body.getD i (.Pass ⟨0, 0, 0, 0⟩)
abbrev s_is_name : Stmt := top 2
abbrev N_is_name : List Str := ["word", "sign"]
theorem sc_is_name : FnScope N_is_name ["word"] (defScope s_is_name) := ⟨rfl, rfl, rfl, by decide +kernel, rfl, by decide +kernel, by decide +kernel⟩
abbrev s_Lfeed : Stmt := top 4
abbrev N_Lfeed : List Str := ["_law_script", "_law_feed_here", "_law_cell", "_law_left", "_law_turn", "_law_seed"]
theorem sc_Lfeed : FnScope N_Lfeed ["_law_script"] (defScope s_Lfeed) := ⟨rfl, rfl, rfl, by decide +kernel, rfl, by decide +kernel, by decide +kernel⟩
abbrev s_Lsame : Stmt := top 5
abbrev N_Lsame : List Str := ["_law_found", "_law_due", "_law_k"]
theorem sc_Lsame : FnScope N_Lsame ["_law_found", "_law_due"] (defScope s_Lsame) := ⟨rfl, rfl, rfl, by decide +kernel, rfl, by decide +kernel, by decide +kernel⟩
abbrev s_Lis_name : Stmt := top 6
abbrev N_Lis_name : List Str := ["_law_word", "_law_sign_here"]
theorem sc_Lis_name : FnScope N_Lis_name ["_law_word"] (defScope s_Lis_name) := ⟨rfl, rfl, rfl, by decide +kernel, rfl, by decide +kernel, by decide +kernel⟩
abbrev s_Lsign : Stmt := top 7
abbrev N_Lsign : List Str := ["_law_number", "_law_other"]
theorem sc_Lsign : FnScope N_Lsign ["_law_number"] (defScope s_Lsign) := ⟨rfl, rfl, rfl, by decide +kernel, rfl, by decide +kernel, by decide +kernel⟩
abbrev s_Law : Stmt := top 8
abbrev N_Law : List Str := ["_law_script", "_law_feed_here", "_law_word", "_law_k", "_law_sign_here"]
theorem sc_Law : FnScope N_Law ["_law_script"] (defScope s_Law) := ⟨rfl, rfl, rfl, by decide +kernel, rfl, by decide +kernel, by decide +kernel⟩
structure Ad where
  a_is_name : Addr
  d_is_name : FuncData
  a_Lfeed : Addr
  d_Lfeed : FuncData
  a_Lsame : Addr
  d_Lsame : FuncData
  a_Lis_name : Addr
  d_Lis_name : FuncData
  a_Lsign : Addr
  d_Lsign : FuncData
  a_Law : Addr
  d_Law : FuncData
  t_LONGEST_NAME : Tok
structure Txt (K : PySem.W.Frag) (mg : Str → Option Value) (A : Ad) : Prop where
  b : Bi mg
  g_LONGEST_NAME : mg "LONGEST_NAME" = some (.int 8 A.t_LONGEST_NAME)
  m_is_name : mg "is_name" = some (.ref A.a_is_name)
  F_is_name : Fun K "is_name" "is_name" s_is_name A.a_is_name A.d_is_name
  b_is_name : Binds K A.d_is_name ["word"] []
  m_Lfeed : mg "_law_feed" = some (.ref A.a_Lfeed)
  F_Lfeed : Fun K "_law_feed" "_law_feed" s_Lfeed A.a_Lfeed A.d_Lfeed
  b_Lfeed : Binds K A.d_Lfeed ["_law_script"] []
  m_Lsame : mg "_law_same" = some (.ref A.a_Lsame)
  F_Lsame : Fun K "_law_same" "_law_same" s_Lsame A.a_Lsame A.d_Lsame
  b_Lsame : Binds K A.d_Lsame ["_law_found", "_law_due"] []
  m_Lis_name : mg "_law_is_name" = some (.ref A.a_Lis_name)
  F_Lis_name : Fun K "_law_is_name" "_law_is_name" s_Lis_name A.a_Lis_name A.d_Lis_name
  b_Lis_name : Binds K A.d_Lis_name ["_law_word"] []
  m_Lsign : mg "_law_sign" = some (.ref A.a_Lsign)
  F_Lsign : Fun K "_law_sign" "_law_sign" s_Lsign A.a_Lsign A.d_Lsign
  b_Lsign : Binds K A.d_Lsign ["_law_number"] []
  m_Law : mg "law" = some (.ref A.a_Law)
  F_Law : Fun K "law" "law" s_Law A.a_Law A.d_Law
  b_Law : Binds K A.d_Law ["_law_script"] []

local macro_rules | `(tactic| walk_at "arith") => `(tactic| first | omega | decide | (unfold CMul; omega) | (unfold CDiv; omega) | (unfold CPow; decide) | (refine ⟨?_, ?_⟩ <;> omega) | (simp; done) | (simp; omega))
local macro_rules | `(tactic| walk_at "wide") => `(tactic| exact ⟨by decide, by decide +kernel⟩)

section
variable {P : Program} {w : World} {K : PySem.W.Frag} {mg : Str → Option Value} {base : Heap} {A : Ad}
structure FeedOk (fs : List Int) : Prop where
  lo : 270 ≤ fs.length
  hi : fs.length ≤ 400
  el : ∀ x ∈ fs, 0 ≤ x ∧ x < 55440
def spFeed (K : PySem.W.Frag) : Sp := fun vs H Q _ => ∃ (G : Hp) (a : Addr) (ns : List Int), vs = [.ref a] ∧ Sb G H ∧ SqL K H a (ns.map V.int) ∧ ns.length ≤ 63 ∧
  ∀ p (fs : List Int) G' H', FeedOk fs → Gr [] G H G' H' → H p = none → G' p = none → H' p = some (.lst (fs.map V.int)) → Q (.ref p) H'
theorem ints_app {fs : List Int} {z : Int} : fs.map V.int ++ [V.int z] = (fs ++ [z]).map V.int := by simp
theorem el_app {fs : List Int} {z : Int} (h : ∀ x ∈ fs, 0 ≤ x ∧ x < 55440) (hz : 0 ≤ z ∧ z < 55440) : ∀ x ∈ fs ++ [z], 0 ≤ x ∧ x < 55440 := fun x hx => by
  rcases List.mem_append.mp hx with h1 | h1
  · exact h x h1
  · rw [List.mem_singleton.mp h1]; exact hz
theorem mod_ok (z : Int) : 0 ≤ z % 55440 ∧ z % 55440 < 55440 := ⟨Int.emod_nonneg _ (by decide), Int.emod_lt_of_pos _ (by decide)⟩
theorem abs_nn (z : Int) : 0 ≤ (if z < 0 then -z else z) := by split <;> omega
theorem ok_Lfeed (T : Txt K mg A) : FnOk P w K mg base CX0 1 A.a_Lfeed A.d_Lfeed ["_law_script"] (spFeed K) := by
  refine T.F_Lfeed.ok sc_Lfeed (fun vs H Q E h => ?_) (fun cdv A' outer s H vs Q E hr h => ?_)
  · obtain ⟨G, a, ns, rfl, _⟩ := h
    rfl
  · obtain ⟨G, a, ns, rfl, s0, hS, hlen, k⟩ := h
    refine ⟨_, (pss_cons (ps_set (i := 1) sc_Lfeed.nd rfl (Or.inl rfl) (pe_lst pa_nil))
      (pss_cons (ps_for PassesOwn.never rfl (pi_list (pv 0)) (pg_name (i := 2) sc_Lfeed.nd rfl (Or.inl rfl))
      (pss_one (ps_if (pt_cmpR op_lt (pe_callB (call_lenK (K := K)) (by rfl) T.b.len (by decide +kernel) (pa_cons (pv 1) pa_nil)) pe_int (nomark _))
      (pss_cons (ps_set (i := 3) sc_Lfeed.nd rfl (Or.inl rfl) (pe_callB call_abs (by rfl) T.b.abs (by decide +kernel) (pa_cons (pv 2) pa_nil)))
      (pss_one (ps_if (pt_cmpR op_ge (pv 3) (pe_op op_pow pe_int pe_int) (nomark _))
      (pss_one (ps_for PassesOwn.never rfl (pi_range1 (by rfl) T.b.range (pa_cons pe_int pa_nil)) (pg_name (i := 4) sc_Lfeed.nd rfl (Or.inl rfl))
      (pss_one (ps_if (pt_cmpR op_gt (pv 3) pe_int (nomark _))
      (pss_cons (ps_expr (pe_bm PySem.F.plainAttrs_list PySem.F.slot_list_append PySem.F.type_list_append mt_append (pv 1) (pa_cons (pe_op op_mod (pv 3) pe_int) pa_nil)))
      (pss_one (ps_set (i := 3) sc_Lfeed.nd rfl (Or.inl rfl) (pe_op op_fdivW (pv 3) pe_int))))
      pss_nil))))
      (pss_cons (ps_set (i := 5) sc_Lfeed.nd rfl (Or.inl rfl) (pe_op op_mod (pe_op op_add (pe_op op_mul (pe_op op_add (pe_op op_mul pe_int (pv 3)) (pe_callTy call_int1 (by rfl) T.b.int_ (by decide +kernel) (pa_cons (pe_cmpR op_lt (pv 2) pe_int (nomark _)) pa_nil))) pe_int) pe_int) pe_int))
      (pss_one (ps_for PassesOwn.never rfl (pi_range1 (by rfl) T.b.range (pa_cons pe_int pa_nil)) (pg_name (i := 4) sc_Lfeed.nd rfl (Or.inl rfl))
      (pss_cons (ps_set (i := 5) sc_Lfeed.nd rfl (Or.inl rfl) (pe_op op_mod (pe_op op_add (pe_op op_mul (pv 5) pe_int) pe_int) pe_int))
      (pss_one (ps_expr (pe_bm PySem.F.plainAttrs_list PySem.F.slot_list_append PySem.F.type_list_append mt_append (pv 1) (pa_cons (pe_op op_mod (pe_op op_fdiv (pv 5) pe_int) pe_int) pa_nil)))))))))))
      pss_nil)))
      (pss_cons (ps_set (i := 5) sc_Lfeed.nd rfl (Or.inl rfl) (pe_op op_add (pe_op op_add pe_int (pe_callB (call_lenK (K := K)) (by rfl) T.b.len (by decide +kernel) (pa_cons (pv 1) pa_nil))) (pe_callB (cr_sumK (K := K) rfl) (by rfl) T.b.sum (by decide +kernel) (pa_cons (pv 1) pa_nil))))
      (pss_cons (ps_for PassesOwn.never rfl (pi_range1 (by rfl) T.b.range (pa_cons pe_int pa_nil)) (pg_name (i := 4) sc_Lfeed.nd rfl (Or.inl rfl))
      (pss_one (ps_if (pt_cmpR op_lt (pe_callB (call_lenK (K := K)) (by rfl) T.b.len (by decide +kernel) (pa_cons (pv 1) pa_nil)) pe_int (nomark _))
      (pss_cons (ps_set (i := 5) sc_Lfeed.nd rfl (Or.inl rfl) (pe_op op_mod (pe_op op_add (pe_op op_mul (pv 5) pe_int) pe_int) pe_int))
      (pss_one (ps_expr (pe_bm PySem.F.plainAttrs_list PySem.F.slot_list_append PySem.F.type_list_append mt_append (pv 1) (pa_cons (pe_op op_mod (pe_op op_fdiv (pv 5) pe_int) pe_int) pa_nil)))))
      pss_nil)))
      (pss_one (ps_ret (pv 1))))))), ?_⟩
    refine q_asgM (ev_lst ea_nil (by walk_at "arith")) s0 fun l xs G1 H1 g1 h0 hn hl hx => ?_
    cases hx
    have hS1 : SqL K H1 a (ns.map V.int) := sq_gr g1 (by simp) hS
    have o1 : Ow G H G1 H1 l ([] : List V) := Ow.mk0 g1 hl hn
    refine ⟨_, rfl, a, rfl, ⟨_, hS1⟩, for_list (K := K) (a := a) (xs := ns.map V.int) (fun i σ' H' => ∃ (fs : List Int) (v2 v3 v4 v5 : Option V) (G' : Hp), σ' = [some (.ref a), some (.ref l), v2, v3, v4, v5] ∧ Ow G H G' H' l (fs.map V.int) ∧ fs.length ≤ 329 ∧ ∀ x ∈ fs, 0 ≤ x ∧ x < 55440)
      ⟨[], none, none, none, none, G1, rfl, o1, by simp, by simp⟩ (fun i σ' H' _ p => ?_) (fun i x σ' H' hx p => ?_) (fun σ' H' p => ?_)⟩
    · obtain ⟨fs, v2, v3, v4, v5, G', rfl, o, _⟩ := p
      exact o.sq h0 hS
    · obtain ⟨fs, v2, v3, v4, v5, G', rfl, hl_feed_here, hf, he⟩ := p
      obtain ⟨z, rfl⟩ : ∃ z, x = V.int z := by
        rw [List.getElem?_map] at hx
        cases e : ns[i]? with
        | none => rw [e] at hx; cases hx
        | some u => rw [e] at hx; exact ⟨u, (Option.some.inj hx).symm⟩
      have h_cell : ∀ G, Dx G (.int z) (.int z) := fun _ => .int z
      refine s_if (et_test (ev_op (ev_lenO rfl hl_feed_here.hl) ev_int rd_lt)) hl_feed_here.s (fun hb G2 H2 g2 => ?_) (fun hb G2 H2 g2 => ?_)
      · have hb := of_decide_eq_true hb
        rw [List.length_map] at hb
        replace hl_feed_here := hl_feed_here.step g2
        refine q_asg ((fun h_cell => (ev_cb (ea_cons (ev_var rfl h_cell) ea_nil) cd_abs)) (h_cell _)) hl_feed_here.s fun v G3 H3 g3 hv => ?_
        obtain rfl := hv.int_eq
        replace hl_feed_here := hl_feed_here.step g3
        have hz0 := abs_nn z
        generalize (if z < 0 then -z else z) = y at hz0 ⊢
        have h_left : ∀ G, Dx G (.int y) (.int y) := fun _ => .int y
        refine s_if ((fun h_left => (et_test (ev_op (ev_var rfl h_left) (ev_op ev_int ev_int (rd_pow (by walk_at "arith"))) rd_ge))) (h_left _)) hl_feed_here.s (fun hy G4 H4 g4 => ?_) (fun hy G4 H4 g4 => ?_)
        · replace hl_feed_here := hl_feed_here.step g4
          refine s_forR [l] (fun n σ' G' H' => ∃ (gs : List Int) (y : Int) (v4 : Option V), σ' = [some (.ref a), some (.ref l), some (.int z), some (.int y), v4, v5] ∧ Ow G H G' H' l (gs.map V.int) ∧ gs.length ≤ fs.length + n ∧ ∀ x ∈ gs, 0 ≤ x ∧ x < 55440)
            (ea_cons ev_int ea_nil) (by omega) hl_feed_here.s (fun G5 H5 g5 => ⟨fs, y, v4, rfl, hl_feed_here.step g5, by omega, he⟩) (fun G5 H5 g5 n σ' G' H' hn2 gg p => ?_) (fun σ' G' H' gg p => ?_)
          · obtain ⟨gs, y, v4, rfl, hl_feed_here, hg, he⟩ := p
            have h_left : ∀ G, Dx G (.int y) (.int y) := fun _ => .int y
            refine s_if ((fun h_left => (et_test (ev_op (ev_var rfl h_left) ev_int rd_gt))) (h_left _)) hl_feed_here.s (fun hy G6 H6 g6 => ?_) (fun hy G6 H6 g6 => ?_)
            · replace hl_feed_here' := hl_feed_here.step g6
              refine q_app' hl_feed_here' rfl ((fun h_left => (ev_op (ev_var rfl h_left) ev_int (rd_mod (by walk_at "arith")))) (h_left _)) (by rw [List.length_map]; omega) fun v G7 H7 hv g7 o7 => ?_
              obtain rfl := hv.int_eq
              rw [ints_app] at o7 ⊢
              refine s_asg ((fun h_left => (ev_op (ev_var rfl h_left) ev_int (rd_fdivW (by walk_at "wide")))) (h_left _)) o7.s fun v G8 H8 g8 hv => ?_
              obtain rfl := hv.int_eq
              refine ⟨G8, ?_, _, _, _, rfl, o7.step g8, by rw [List.length_append, List.length_singleton]; omega, el_app he (mod_ok y)⟩
              exact ((((gg.trans g6.any).trans g7.any).write (Or.inl (by simp)) o7.hn)).trans g8.any
            · exact ⟨G6, gg.trans g6.any, gs, y, _, rfl, hl_feed_here.step g6, by omega, he⟩
          · obtain ⟨gs, y, v4, rfl, o, hg, he⟩ := p
            exact ⟨gs, _, _, _, _, G', rfl, o, by have : (60 : Int).toNat = 60 := rfl; omega, he⟩
        · replace hl_feed_here := hl_feed_here.step g4
          have hy := of_decide_eq_false hy
          have hy1 : y < 1000000000000000000 := by
            have e : ((10 : Int) ^ (18 : Int).toNat) = 1000000000000000000 := by decide
            rw [e] at hy; omega
          refine q_asg ((fun h_left h_cell => (ev_op (ev_op (ev_op (ev_op (ev_op ev_int (ev_var rfl h_left) (rd_mul (by walk_at "arith"))) (ev_cb (ea_cons (ev_op (ev_var rfl h_cell) ev_int rd_lt) ea_nil) cd_intB) rd_add) ev_int (rd_mul (by walk_at "arith"))) ev_int rd_add) ev_int (rd_mod (by walk_at "arith")))) (h_left _) (h_cell _)) hl_feed_here.s fun v G5 H5 g5 hv => ?_
          obtain rfl := hv.int_eq
          replace hl_feed_here := hl_feed_here.step g5
          have hs0 : ∀ u : Int, 0 ≤ u % 2147483629 ∧ u % 2147483629 < 2147483647 := fun u => ⟨by omega, by omega⟩
          have hs1 := hs0 ((2 * y + (if decide (z < 0) then 1 else 0)) * 69621 + 11)
          generalize ((2 * y + (if decide (z < 0) then 1 else 0)) * 69621 + 11) % 2147483629 = sd at hs1 ⊢
          refine s_forR [l] (fun n σ' G' H' => ∃ (gs : List Int) (sd : Int) (v4 : Option V), σ' = [some (.ref a), some (.ref l), some (.int z), some (.int y), v4, some (.int sd)] ∧ (0 ≤ sd ∧ sd < 2147483647) ∧ Ow G H G' H' l (gs.map V.int) ∧ gs.length ≤ fs.length + n ∧ ∀ x ∈ gs, 0 ≤ x ∧ x < 55440)
            (ea_cons ev_int ea_nil) (by omega) hl_feed_here.s (fun G6 H6 g6 => ⟨fs, sd, v4, rfl, hs1, hl_feed_here.step g6, by omega, he⟩) (fun G6 H6 g6 n σ' G' H' hn2 gg p => ?_) (fun σ' G' H' gg p => ?_)
          · obtain ⟨gs, sd, v4, rfl, hs1, hl_feed_here, hg, he⟩ := p
            have h_seed : ∀ G, Dx G (.int sd) (.int sd) := fun _ => .int sd
            refine q_asg ((fun h_seed => (ev_op (ev_op (ev_op (ev_var rfl h_seed) ev_int (rd_mul (by walk_at "arith"))) ev_int rd_add) ev_int (rd_mod (by walk_at "arith")))) (h_seed _)) hl_feed_here.s fun v G7 H7 g7 hv => ?_
            obtain rfl := hv.int_eq
            have hl_feed_here' := hl_feed_here.step g7
            have hs2 : 0 ≤ (sd * 48271 + 7919) % 2147483647 ∧ (sd * 48271 + 7919) % 2147483647 < 2147483647 := by omega
            generalize (sd * 48271 + 7919) % 2147483647 = sd2 at hs2 ⊢
            have h_seed : ∀ G, Dx G (.int sd2) (.int sd2) := fun _ => .int sd2
            refine s_app' hl_feed_here' rfl ((fun h_seed => (ev_op (ev_op (ev_var rfl h_seed) ev_int (rd_fdiv (by walk_at "arith"))) ev_int (rd_mod (by walk_at "arith")))) (h_seed _)) (by rw [List.length_map]; omega) fun v G8 H8 hv g8 o8 => ?_
            obtain rfl := hv.int_eq
            rw [ints_app] at o8 ⊢
            refine ⟨G8, ?_, _, _, _, rfl, hs2, o8, by rw [List.length_append, List.length_singleton]; omega, el_app he (mod_ok _)⟩
            exact (((gg.trans g7.any).trans g8.any).write (Or.inl (by simp)) o8.hn)
          · obtain ⟨gs, sd, v4, rfl, _, o, hg, he⟩ := p
            exact ⟨gs, _, _, _, _, G', rfl, o, by have : (6 : Int).toNat = 6 := rfl; omega, he⟩
      · exact ⟨fs, _, _, _, _, G2, rfl, hl_feed_here.step g2, hf, he⟩
    · obtain ⟨fs, v2, v3, v4, v5, G', rfl, hl_feed_here, hf, he⟩ := p
      refine q_asg (ev_op (ev_op ev_int (ev_lenO rfl hl_feed_here.hl) rd_add) (ev_sumO rfl hl_feed_here.hl (Dxs.ints _)) rd_add) hl_feed_here.s fun v G2 H2 g2 hv => ?_
      obtain rfl := hv.int_eq
      replace hl_feed_here := hl_feed_here.step g2
      have hsum : ∀ fs : List Int, (∀ x ∈ fs, 0 ≤ x ∧ x < 55440) → 0 ≤ fs.sum ∧ fs.sum ≤ 55440 * (fs.length : Int) := by
        intro fs
        induction fs with
        | nil => intro _; simp
        | cons x r ih =>
          intro h
          have h1 := h x (by simp)
          have h2 := ih fun y hy => h y (by simp [hy])
          rw [List.sum_cons, List.length_cons]
          omega
      have hs1 := hsum fs he
      rw [List.length_map]
      have hs2 : 0 ≤ 271 + (fs.length : Int) + fs.sum ∧ 271 + (fs.length : Int) + fs.sum < 2147483647 := by omega
      generalize 271 + (fs.length : Int) + fs.sum = sd at hs2 ⊢
      refine q_forR [l] (fun n σ' G' H' => ∃ (gs : List Int) (sd : Int) (v4 : Option V), σ' = [some (.ref a), some (.ref l), v2, v3, v4, some (.int sd)] ∧ (0 ≤ sd ∧ sd < 2147483647) ∧ Ow G H G' H' l (gs.map V.int) ∧ (n ≤ gs.length ∧ gs.length ≤ 329) ∧ ∀ x ∈ gs, 0 ≤ x ∧ x < 55440)
        (ea_cons ev_int ea_nil) (by omega) hl_feed_here.s (fun G6 H6 g6 => ⟨fs, sd, v4, rfl, hs2, hl_feed_here.step g6, by omega, he⟩) (fun G6 H6 g6 n σ' G' H' hn2 gg p => ?_) (fun σ' G' H' gg p => ?_)
      · obtain ⟨gs, sd, v4, rfl, hs1, hl_feed_here, hg, he⟩ := p
        refine s_if (et_test (ev_op (ev_lenO rfl hl_feed_here.hl) ev_int rd_lt)) hl_feed_here.s (fun hb G7 H7 g7 => ?_) (fun hb G7 H7 g7 => ?_)
        · have hb := of_decide_eq_true hb
          rw [List.length_map] at hb
          have h_seed : ∀ G, Dx G (.int sd) (.int sd) := fun _ => .int sd
          have o7 := hl_feed_here.step g7
          refine q_asg ((fun h_seed => (ev_op (ev_op (ev_op (ev_var rfl h_seed) ev_int (rd_mul (by walk_at "arith"))) ev_int rd_add) ev_int (rd_mod (by walk_at "arith")))) (h_seed _)) o7.s fun v G8 H8 g8 hv => ?_
          obtain rfl := hv.int_eq
          have hs3 : 0 ≤ (sd * 48271 + 12345) % 2147483629 ∧ (sd * 48271 + 12345) % 2147483629 < 2147483647 := by omega
          generalize (sd * 48271 + 12345) % 2147483629 = sd2 at hs3 ⊢
          have h_seed : ∀ G, Dx G (.int sd2) (.int sd2) := fun _ => .int sd2
          refine s_app' (o7.step g8) rfl ((fun h_seed => (ev_op (ev_op (ev_var rfl h_seed) ev_int (rd_fdiv (by walk_at "arith"))) ev_int (rd_mod (by walk_at "arith")))) (h_seed _)) (by rw [List.length_map]; omega) fun v G9 H9 hv g9 o9 => ?_
          obtain rfl := hv.int_eq
          rw [ints_app] at o9 ⊢
          refine ⟨G9, ?_, _, _, _, rfl, hs3, o9, by rw [List.length_append, List.length_singleton]; omega, el_app he (mod_ok _)⟩
          exact ((((gg.trans g7.any).trans g8.any).trans g9.any).write (Or.inl (by simp)) o9.hn)
        · have hb := of_decide_eq_false hb
          rw [List.length_map] at hb
          exact ⟨G7, gg.trans g7.any, gs, sd, _, rfl, hs1, hl_feed_here.step g7, by omega, he⟩
      · obtain ⟨gs, sd, v4, rfl, _, o, hg, he⟩ := p
        refine ⟨.ref l, rfl, k l gs G' H' ⟨by have : (270 : Int).toNat = 270 := rfl; omega, by omega, he⟩ (o.g.drop h0) h0 o.hn o.hl⟩
theorem q_feed {K : PySem.W.Frag} {E : XK} {σ : L2.St} {H : Hp} {tz : TS} {D : Ends} {i j : Nat} {a : Addr} {ns : List Int} (hv : σ[i]? = some (some (.ref a))) (hS : SqL K H a (ns.map V.int)) (hlen : ns.length ≤ 63)
    (k : ∀ l fs G1 H1, FeedOk fs → Gr [] (fun _ => none) H G1 H1 → Dx G1 (.ref l) (.list (fs.map .int)) → tz D (σ.set j (some (.ref l))) H1) : tSeq (tAsg (tCall (spFeed K) [] E (tCons (tVar i) tNil)) (gName j)) tz D σ H :=
  ⟨.ref a, hv, (fun _ => none), a, ns, rfl, (fun _ _ e => nomatch e), hS, hlen, fun l fs _ H1 hok g1 h0 hn hl => k l fs _ H1 hok (g1.freeze hl hn h0) (.lst upd_same (Dxs.ints fs))⟩

mutual
def dep : PyData → Nat
  | .list ds => 1 + deps ds
  | .tuple ds => 1 + deps ds
  | _ => 0
def deps : List PyData → Nat
  | [] => 0
  | d :: ds => max (dep d) (deps ds)
end
theorem dep_le : ∀ {ds : List PyData} {d : PyData}, d ∈ ds → dep d ≤ deps ds
  | e :: es, d, h => by
    rcases List.mem_cons.mp h with h | h
    · subst h; unfold deps; exact Nat.le_max_left _ _
    · unfold deps; exact Nat.le_trans (dep_le h) (Nat.le_max_right _ _)
mutual
/-- data that the comparison goes through -/
def good : PyData → Bool
  | .list ds => decide (ds.length ≤ 40000) && goods ds
  | .tuple ds => decide (ds.length ≤ 40000) && goods ds
  | .dict _ => false
  | _ => true
def goods : List PyData → Bool
  | [] => true
  | d :: ds => good d && goods ds
end
theorem good_of : ∀ {ds : List PyData} {d : PyData}, goods ds = true → d ∈ ds → good d = true
  | e :: es, d, hg, h => by
    unfold goods at hg
    rw [Bool.and_eq_true] at hg
    rcases List.mem_cons.mp h with h | h
    · subst h; exact hg.1
    · exact good_of hg.2 h
abbrev spSame (n : Nat) : Sp := SpD (α := PyData) (fun d => [d, d]) (fun d => dep d ≤ n ∧ good d = true) (fun _ => .bool true)
theorem rd_eqX {d : PyData} (h : dep d = 0) (hd : good d = true) : RD rEq d d (.bool true) := fun G1 _ x y s hx hy _ q => by
  have e : x = y := by
    cases hx with
    | non => rw [hy.non_eq]
    | bl b => rw [hy.bl_eq]
    | int i => rw [hy.int_eq]
    | str z => rw [hy.str_eq]
    | lst _ _ => unfold dep at h; omega
    | tup _ _ => unfold dep at h; omega
  subst e
  refine ⟨?_, ?_⟩
  · cases hx with
    | non => rfl
    | bl b => rfl
    | int i => rfl
    | str z => rfl
    | lst _ _ => unfold dep at h; omega
    | tup _ _ => unfold dep at h; omega
  · rw [decide_eq_true rfl]; exact q _ G1 _ (.refl s) (.bl _)
theorem rd_ixanyL {K : PySem.W.Frag} {ds : List PyData} {i : Int} {d : PyData} (h : atI ds i = some d) : RD (rIx K) (.list ds) (.int i) d := fun G1 H1 x y s hx hy Q q => Or.inl (rd_ixL h G1 H1 x y s hx hy Q q)
theorem rd_ixanyT {K : PySem.W.Frag} {ds : List PyData} {i : Int} {d : PyData} (h : atI ds i = some d) : RD (rIx K) (.tuple ds) (.int i) d := fun G1 H1 x y s hx hy Q q => Or.inr (Or.inl (rd_ixT h G1 H1 x y s hx hy Q q))
theorem atI_getD {ds : List PyData} {i : Nat} (h : i < ds.length) : atI ds (i : Int) = some (ds.getD i .none) := by
  refine atI_nat ?_
  rw [List.getD_eq_getElem?_getD, List.getElem?_eq_getElem h]; rfl
theorem getD_mem {ds : List PyData} {i : Nat} (h : i < ds.length) : ds.getD i .none ∈ ds := by
  rw [List.getD_eq_getElem?_getD, List.getElem?_eq_getElem h]; exact List.getElem_mem h
theorem given_true (n : Nat) : (given n (fun _ => true) fun _ => PyData.bool true) = (List.replicate n true).map .bool := by
  unfold given
  induction n with
  | zero => rfl
  | succ n ih =>
    rw [List.range_succ, List.filter_append, List.map_append, ih, List.replicate_succ', List.map_append]
    rfl
theorem all_rep (n : Nat) : (List.replicate n true).all id = true := by
  induction n with
  | zero => rfl
  | succ n ih => rw [List.replicate_succ, List.all_cons, ih]; rfl
local macro_rules | `(tactic| walk_at "eqx") => `(tactic| first | rfl | (unfold dep; rfl) | (unfold good; rfl))
local macro_rules | `(tactic| walk_at "pre") => `(tactic| first | exact hcall _ ‹_› | trivial)
local macro_rules | `(tactic| walk_at "lenany") => `(tactic| first | exact cd_lenL | exact cd_lenT)
local macro_rules | `(tactic| walk_at "ixany") => `(tactic| first | exact rd_ixanyL (atI_getD (by omega)) | exact rd_ixanyT (atI_getD (by omega)))
local macro_rules | `(tactic| walk_at "bools") => `(tactic| exact given_true _)
local macro_rules | `(tactic| walk_at "kit") => `(tactic| first | exact kit_NoneType_bool | exact kit_NoneType_int | exact kit_NoneType_str | exact kit_NoneType_list | exact kit_NoneType_tuple | exact kit_bool_bool | exact kit_bool_int | exact kit_bool_str | exact kit_bool_list | exact kit_bool_tuple | exact kit_int_bool | exact kit_int_int | exact kit_int_str | exact kit_int_list | exact kit_int_tuple | exact kit_str_bool | exact kit_str_int | exact kit_str_str | exact kit_str_list | exact kit_str_tuple | exact kit_list_bool | exact kit_list_int | exact kit_list_str | exact kit_list_list | exact kit_list_tuple | exact kit_tuple_bool | exact kit_tuple_int | exact kit_tuple_str | exact kit_tuple_list | exact kit_tuple_tuple)
def spSame' : Nat → Sp
  | 0 => fun _ _ _ _ => False
  | n + 1 => spSame n
theorem step_Lsame (T : Txt K mg A) (n : Nat) (G_Lsame : FnOk P w K mg base CX0 n A.a_Lsame A.d_Lsame ["_law_found", "_law_due"] (spSame' n)) : FnOk P w K mg base CX0 (n + 1) A.a_Lsame A.d_Lsame ["_law_found", "_law_due"] (spSame n) := by
  refine T.F_Lsame.ok sc_Lsame (fun vs H Q E h => ?_) (fun cdv A' outer s H vs Q E hr h => ?_)
  · obtain ⟨G, x, _, hx, _⟩ := h
    exact hx.len
  · obtain ⟨G, d, s0, hx, ⟨hdep, hgood⟩, k⟩ := h
    obtain ⟨v0, v1, rfl, h_found, h_due⟩ := dxs2 hx
    refine ⟨_, (pss_cons (ps_if (pt_val (pe_callB (call_isiTK (K := K)) (by rfl) T.b.isinstance (by decide +kernel) (pa_cons (pv 1) (pa_cons (pe_tup (pa_cons (pe_bltn (by rfl) T.b.tuple (by decide +kernel) (v := .ty "tuple") rfl) (pa_cons (pe_bltn (by rfl) T.b.list (by decide +kernel) (v := .ty "list") rfl) pa_nil))) pa_nil))))
      (pss_cons (ps_if (PW.pt (pw_or (pt_cmpR op_ne (pe_callB (call_isiKK (K := K)) (by rfl) T.b.isinstance (by decide +kernel) (pa_cons (pv 1) (pa_cons (pe_bltn (by rfl) T.b.tuple (by decide +kernel) (v := .ty "tuple") rfl) pa_nil))) (pe_callB (call_isiKK (K := K)) (by rfl) T.b.isinstance (by decide +kernel) (pa_cons (pv 0) (pa_cons (pe_bltn (by rfl) T.b.tuple (by decide +kernel) (v := .ty "tuple") rfl) pa_nil))) (nomark _)) (pw_or1 (pt_cmpR op_ne (pe_callB (call_isiKK (K := K)) (by rfl) T.b.isinstance (by decide +kernel) (pa_cons (pv 1) (pa_cons (pe_bltn (by rfl) T.b.list (by decide +kernel) (v := .ty "list") rfl) pa_nil))) (pe_callB (call_isiKK (K := K)) (by rfl) T.b.isinstance (by decide +kernel) (pa_cons (pv 0) (pa_cons (pe_bltn (by rfl) T.b.list (by decide +kernel) (v := .ty "list") rfl) pa_nil))) (nomark _)))))
      (pss_one (ps_ret pe_bl))
      pss_nil)
      (pss_one (ps_ret (pe_and (pe_cmpR op_eq (pe_callB (call_lenK (K := K)) (by rfl) T.b.len (by decide +kernel) (pa_cons (pv 0) pa_nil)) (pe_callB (call_lenK (K := K)) (by rfl) T.b.len (by decide +kernel) (pa_cons (pv 1) pa_nil)) (nomark _)) (pe_one (pe_callB (cr_allK (K := K) rfl) (by rfl) T.b.all (by decide +kernel) (pa_cons (pe_lc (own := [("_law_k", 2)]) (g := gName 2) rfl sc_Lsame.nd (pi_range1 (by rfl) T.b.range (pa_cons (pe_callB (call_lenK (K := K)) (by rfl) T.b.len (by decide +kernel) (pa_cons (pv 1) pa_nil)) pa_nil)) (blkOk_by (own := [("_law_k", 2)]) (N := N_Lsame) (sc := defScope s_Lsame) (by decide +kernel)) (fun _ _ _ _ _ => pg_name (i := 2) sc_Lsame.nd rfl (Or.inl rfl)) (fun _ _ _ _ _ => pts_nil) (fun _ _ _ _ _ => (pe_call G_Lsame hr (by rfl) T.m_Lsame T.F_Lsame.kp T.b_Lsame .nil pass0 (pa_cons (pe_ix (ix_seqK (K := K)) (pv 0) (pv 2) (fun _ _ => rfl)) (pa_cons (pe_ix (ix_seqK (K := K)) (pv 1) (pv 2) (fun _ _ => rfl)) pa_nil))))) pa_nil)))))))
      pss_nil)
      (pss_cons (ps_if (pt_cmpR op_isN (pv 1) pe_non (nomark _))
      (pss_one (ps_ret (pe_cmpR op_isN (pv 0) pe_non (nomark _))))
      pss_nil)
      (pss_cons (ps_if (PW.pt (pw_or (pt_val (pe_callB (call_isiKK (K := K)) (by rfl) T.b.isinstance (by decide +kernel) (pa_cons (pv 1) (pa_cons (pe_bltn (by rfl) T.b.bool (by decide +kernel) (v := .ty "bool") rfl) pa_nil)))) (pw_or1 (pt_val (pe_callB (call_isiKK (K := K)) (by rfl) T.b.isinstance (by decide +kernel) (pa_cons (pv 0) (pa_cons (pe_bltn (by rfl) T.b.bool (by decide +kernel) (v := .ty "bool") rfl) pa_nil)))))))
      (pss_one (ps_ret (pe_and (pe_callB (call_isiKK (K := K)) (by rfl) T.b.isinstance (by decide +kernel) (pa_cons (pv 1) (pa_cons (pe_bltn (by rfl) T.b.bool (by decide +kernel) (v := .ty "bool") rfl) pa_nil))) (pe_and (pe_callB (call_isiKK (K := K)) (by rfl) T.b.isinstance (by decide +kernel) (pa_cons (pv 0) (pa_cons (pe_bltn (by rfl) T.b.bool (by decide +kernel) (v := .ty "bool") rfl) pa_nil))) (pe_one (pe_cmpR op_eq (pv 0) (pv 1) (nomark _)))))))
      pss_nil)
      (pss_one (ps_ret (pe_and (pe_cmpR op_eq (pe_callB (call_isiKK (K := K)) (by rfl) T.b.isinstance (by decide +kernel) (pa_cons (pv 0) (pa_cons (pe_bltn (by rfl) T.b.int_ (by decide +kernel) (v := .ty "int") rfl) pa_nil))) (pe_callB (call_isiKK (K := K)) (by rfl) T.b.isinstance (by decide +kernel) (pa_cons (pv 1) (pa_cons (pe_bltn (by rfl) T.b.int_ (by decide +kernel) (v := .ty "int") rfl) pa_nil))) (nomark _)) (pe_one (pe_cmpR op_eq (pv 0) (pv 1) (nomark _))))))))), ?_⟩
    have ret : ∀ {te : TE} {D : Ends} {G1 H1 : Hp}, D.rt = Q → Gr [] G H G1 H1 → EvD te [some v0, some v1, none] G1 H1 (.bool true) → tRet te D [some v0, some v1, none] H1 := fun {te D G1 H1} hD g1 he => by
      subst hD
      exact s_ret he g1.s fun v G2 H2 g2 hv => k v G2 H2 (g1.trans g2) hv
    have g0 : Gr [] G H G H := .refl s0
    cases d with
    | none =>
      refine q_when (b := false) (evt_is (et_B (ev_isiT2 (ev_var rfl h_due) (by walk_at "kit") (by walk_at "kit"))) rfl) s0 (fun hb => by cases hb) (fun _ G1 H1 g1 => ?_)
      have h_found := h_found.mono g1.g; have h_due := h_due.mono g1.g
      refine q_when (b := true) (evt_is (et_test (ev_op (ev_var rfl h_due) ev_non rd_isN)) rfl) g1.s (fun _ G2 H2 g2 => ?_) (fun hb => by cases hb)
      have h_found := h_found.mono g2.g
      exact ret rfl (g1.trans g2) (ev_op (ev_var rfl h_found) ev_non rd_isN)
    | bool b =>
      refine q_when (b := false) (evt_is (et_B (ev_isiT2 (ev_var rfl h_due) (by walk_at "kit") (by walk_at "kit"))) rfl) s0 (fun hb => by cases hb) (fun _ G1 H1 g1 => ?_)
      have h_found := h_found.mono g1.g; have h_due := h_due.mono g1.g
      refine q_when (b := false) (evt_is (et_test (ev_op (ev_var rfl h_due) ev_non rd_isN)) rfl) g1.s (fun hb => by cases hb) (fun _ G2 H2 g2 => ?_)
      have h_found := h_found.mono g2.g; have h_due := h_due.mono g2.g
      refine q_when (b := true) (evt_is (et_or (et_B (ev_isi (ev_var rfl h_due) (by walk_at "kit"))) (fun _ => (et_B (ev_isi (ev_var rfl h_found) (by walk_at "kit"))))) rfl) g2.s (fun _ G3 H3 g3 => ?_) (fun hb => by cases hb)
      have h_found := h_found.mono g3.g; have h_due := h_due.mono g3.g
      exact ret rfl ((g1.trans g2).trans g3) (ev_is (ev_andV (ev_isi (ev_var rfl h_due) (by walk_at "kit")) (fun _ => (ev_andV (ev_isi (ev_var rfl h_found) (by walk_at "kit")) (fun _ => (ev_op (ev_var rfl h_found) (ev_var rfl h_due) (rd_eqX (by walk_at "eqx") (by walk_at "eqx"))))))) rfl)
    | int i =>
      refine q_when (b := false) (evt_is (et_B (ev_isiT2 (ev_var rfl h_due) (by walk_at "kit") (by walk_at "kit"))) rfl) s0 (fun hb => by cases hb) (fun _ G1 H1 g1 => ?_)
      have h_found := h_found.mono g1.g; have h_due := h_due.mono g1.g
      refine q_when (b := false) (evt_is (et_test (ev_op (ev_var rfl h_due) ev_non rd_isN)) rfl) g1.s (fun hb => by cases hb) (fun _ G2 H2 g2 => ?_)
      have h_found := h_found.mono g2.g; have h_due := h_due.mono g2.g
      refine q_when (b := false) (evt_is (et_or (et_B (ev_isi (ev_var rfl h_due) (by walk_at "kit"))) (fun _ => (et_B (ev_isi (ev_var rfl h_found) (by walk_at "kit"))))) rfl) g2.s (fun hb => by cases hb) (fun _ G3 H3 g3 => ?_)
      have h_found := h_found.mono g3.g; have h_due := h_due.mono g3.g
      exact ret rfl ((g1.trans g2).trans g3) (ev_is (ev_andV (ev_op (ev_isi (ev_var rfl h_found) (by walk_at "kit")) (ev_isi (ev_var rfl h_due) (by walk_at "kit")) rd_eqB) (fun _ => (ev_op (ev_var rfl h_found) (ev_var rfl h_due) (rd_eqX (by walk_at "eqx") (by walk_at "eqx"))))) rfl)
    | str z =>
      refine q_when (b := false) (evt_is (et_B (ev_isiT2 (ev_var rfl h_due) (by walk_at "kit") (by walk_at "kit"))) rfl) s0 (fun hb => by cases hb) (fun _ G1 H1 g1 => ?_)
      have h_found := h_found.mono g1.g; have h_due := h_due.mono g1.g
      refine q_when (b := false) (evt_is (et_test (ev_op (ev_var rfl h_due) ev_non rd_isN)) rfl) g1.s (fun hb => by cases hb) (fun _ G2 H2 g2 => ?_)
      have h_found := h_found.mono g2.g; have h_due := h_due.mono g2.g
      refine q_when (b := false) (evt_is (et_or (et_B (ev_isi (ev_var rfl h_due) (by walk_at "kit"))) (fun _ => (et_B (ev_isi (ev_var rfl h_found) (by walk_at "kit"))))) rfl) g2.s (fun hb => by cases hb) (fun _ G3 H3 g3 => ?_)
      have h_found := h_found.mono g3.g; have h_due := h_due.mono g3.g
      exact ret rfl ((g1.trans g2).trans g3) (ev_is (ev_andV (ev_op (ev_isi (ev_var rfl h_found) (by walk_at "kit")) (ev_isi (ev_var rfl h_due) (by walk_at "kit")) rd_eqB) (fun _ => (ev_op (ev_var rfl h_found) (ev_var rfl h_due) (rd_eqX (by walk_at "eqx") (by walk_at "eqx"))))) rfl)
    | list ds =>
      unfold dep at hdep
      obtain ⟨m, rfl⟩ : ∃ m, n = m + 1 := ⟨n - 1, by omega⟩
      unfold good at hgood
      rw [Bool.and_eq_true] at hgood
      obtain ⟨hl, hg⟩ := hgood
      have hl := of_decide_eq_true hl
      refine q_when (b := true) (evt_is (et_B (ev_isiT2 (ev_var rfl h_due) (by walk_at "kit") (by walk_at "kit"))) rfl) s0 (fun _ G1 H1 g1 => ?_) (fun hb => by cases hb)
      have h_found := h_found.mono g1.g; have h_due := h_due.mono g1.g
      refine q_when (b := false) (evt_is (et_or (et_test (ev_op (ev_isi (ev_var rfl h_due) (by walk_at "kit")) (ev_isi (ev_var rfl h_found) (by walk_at "kit")) rd_neB)) (fun _ => (et_test (ev_op (ev_isi (ev_var rfl h_due) (by walk_at "kit")) (ev_isi (ev_var rfl h_found) (by walk_at "kit")) rd_neB)))) rfl) g1.s (fun hb => by cases hb) (fun _ G2 H2 g2 => ?_)
      have h_found := h_found.mono g2.g; have h_due := h_due.mono g2.g
      have hcall : ∀ i : Nat, (i : Int) < ((ds.length : Nat) : Int) → dep (ds.getD i .none) ≤ m ∧ good (ds.getD i .none) = true := fun i hi => by
        have hm := getD_mem (show i < ds.length by omega)
        exact ⟨Nat.le_trans (dep_le hm) (by omega), good_of hg hm⟩
      exact ret rfl (g1.trans g2) (ev_is (ev_andV (ev_op (ev_cb (ea_cons (ev_var rfl h_found) ea_nil) cd_lenL) (ev_cb (ea_cons (ev_var rfl h_due) ea_nil) cd_lenL) rd_eqI)
        (fun _ => ev_cb (ea_cons (ev_lcR (fun _ => true) (fun _ => .bool true) (ea_cons (ev_cb (ea_cons (ev_var rfl h_due) ea_nil) cd_lenL) ea_nil) (by omega) (fun _ => rfl) (fun i hi => et_yes)
          (fun i hi hf => ev_call (ds.getD i .none) (ea_cons (ev_op (ev_var rfl h_found) (ev_var rfl (.int _)) (rd_ixanyL (atI_getD (by omega)))) (ea_cons (ev_op (ev_var rfl h_due) (ev_var rfl (.int _)) (rd_ixanyL (atI_getD (by omega)))) ea_nil)) (hcall i hi))).dat ea_nil) (cd_all' (given_true _))))
        (by rw [all_rep, decide_eq_true rfl]; rfl))
    | tuple ds =>
      unfold dep at hdep
      obtain ⟨m, rfl⟩ : ∃ m, n = m + 1 := ⟨n - 1, by omega⟩
      unfold good at hgood
      rw [Bool.and_eq_true] at hgood
      obtain ⟨hl, hg⟩ := hgood
      have hl := of_decide_eq_true hl
      refine q_when (b := true) (evt_is (et_B (ev_isiT2 (ev_var rfl h_due) (by walk_at "kit") (by walk_at "kit"))) rfl) s0 (fun _ G1 H1 g1 => ?_) (fun hb => by cases hb)
      have h_found := h_found.mono g1.g; have h_due := h_due.mono g1.g
      refine q_when (b := false) (evt_is (et_or (et_test (ev_op (ev_isi (ev_var rfl h_due) (by walk_at "kit")) (ev_isi (ev_var rfl h_found) (by walk_at "kit")) rd_neB)) (fun _ => (et_test (ev_op (ev_isi (ev_var rfl h_due) (by walk_at "kit")) (ev_isi (ev_var rfl h_found) (by walk_at "kit")) rd_neB)))) rfl) g1.s (fun hb => by cases hb) (fun _ G2 H2 g2 => ?_)
      have h_found := h_found.mono g2.g; have h_due := h_due.mono g2.g
      have hcall : ∀ i : Nat, (i : Int) < ((ds.length : Nat) : Int) → dep (ds.getD i .none) ≤ m ∧ good (ds.getD i .none) = true := fun i hi => by
        have hm := getD_mem (show i < ds.length by omega)
        exact ⟨Nat.le_trans (dep_le hm) (by omega), good_of hg hm⟩
      exact ret rfl (g1.trans g2) (ev_is (ev_andV (ev_op (ev_cb (ea_cons (ev_var rfl h_found) ea_nil) cd_lenT) (ev_cb (ea_cons (ev_var rfl h_due) ea_nil) cd_lenT) rd_eqI)
        (fun _ => ev_cb (ea_cons (ev_lcR (fun _ => true) (fun _ => .bool true) (ea_cons (ev_cb (ea_cons (ev_var rfl h_due) ea_nil) cd_lenT) ea_nil) (by omega) (fun _ => rfl) (fun i hi => et_yes)
          (fun i hi hf => ev_call (ds.getD i .none) (ea_cons (ev_op (ev_var rfl h_found) (ev_var rfl (.int _)) (rd_ixanyT (atI_getD (by omega)))) (ea_cons (ev_op (ev_var rfl h_due) (ev_var rfl (.int _)) (rd_ixanyT (atI_getD (by omega)))) ea_nil)) (hcall i hi))).dat ea_nil) (cd_all' (given_true _))))
        (by rw [all_rep, decide_eq_true rfl]; rfl))
    | dict _ => unfold good at hgood; cases hgood
theorem ok_Lsame (T : Txt K mg A) : ∀ n : Nat, FnOk P w K mg base CX0 n A.a_Lsame A.d_Lsame ["_law_found", "_law_due"] (spSame' n)
  | 0 => ⟨fun _ _ _ _ h => h.elim, fun _ _ _ _ _ _ _ _ _ _ _ _ _ h => h.elim⟩
  | n + 1 => step_Lsame T n (ok_Lsame T n)

theorem given_map {β : Type} (n : Nat) (v : Nat → β) : given n (fun _ => true) v = (List.range n).map v := by
  unfold given
  rw [List.filter_eq_self.mpr (fun _ _ => rfl)]
abbrev alpha : Str := "abcdefghijklmnopqrstuvwxyz"
def isName (z : Str) : Bool := decide (1 ≤ (z.length : Int)) && decide ((z.length : Int) ≤ 8) && ((List.range z.length).map fun i => decide ((z.cps[i]?.getD 0) ∈ alpha.cps.toList)).all id
def low (c : Nat) : Bool := !decide ((⟨#[c]⟩ : Str).cps.toList < ("a" : Str).cps.toList) && !decide (("z" : Str).cps.toList < (⟨#[c]⟩ : Str).cps.toList)
theorem alpha_eq : alpha.cps.toList = [97, 98, 99, 100, 101, 102, 103, 104, 105, 106, 107, 108, 109, 110, 111, 112, 113, 114, 115, 116, 117, 118, 119, 120, 121, 122] := by decide +kernel
theorem low_eq (c : Nat) : low c = decide (c ∈ alpha.cps.toList) := by
  have ha : ("a" : Str).cps.toList = [97] := by decide +kernel
  have hz : ("z" : Str).cps.toList = [122] := by decide +kernel
  unfold low
  rw [ha, hz, alpha_eq]
  have e1 : decide ((⟨#[c]⟩ : Str).cps.toList < [97]) = decide (c < 97) := decide_eq_decide.mpr (by simp [List.cons_lt_cons_iff])
  have e2 : decide ([122] < (⟨#[c]⟩ : Str).cps.toList) = decide (122 < c) := decide_eq_decide.mpr (by simp [List.cons_lt_cons_iff])
  rw [e1, e2]
  by_cases h : c < 128
  · have go : ∀ c : Nat, c < 128 → (!decide (c < 97) && !decide (122 < c)) = decide (c ∈ [97, 98, 99, 100, 101, 102, 103, 104, 105, 106, 107, 108, 109, 110, 111, 112, 113, 114, 115, 116, 117, 118, 119, 120, 121, 122]) := by decide +kernel
    exact go c h
  · have h1 : decide (122 < c) = true := decide_eq_true (by omega)
    have h2 : c ∉ [97, 98, 99, 100, 101, 102, 103, 104, 105, 106, 107, 108, 109, 110, 111, 112, 113, 114, 115, 116, 117, 118, 119, 120, 121, 122] := by
      simp only [List.mem_cons, List.not_mem_nil, or_false]
      omega
    rw [h1, decide_eq_false h2, Bool.not_true, Bool.and_false]
theorem atI_sign {z : Str} {i : Int} (h0 : 0 ≤ i) (h : i < z.length) : atI z.cps.toList i = some (z.cps.toList.getD i.toNat 0) := by
  obtain ⟨k, rfl⟩ : ∃ k : Nat, i = (k : Int) := ⟨i.toNat, by omega⟩
  have hk : k < z.cps.toList.length := by
    have : z.cps.toList.length = z.length := rfl
    omega
  refine atI_nat ?_
  show z.cps.toList[k]? = some (z.cps.toList.getD k 0)
  rw [List.getD_eq_getElem?_getD, List.getElem?_eq_getElem hk]; rfl
theorem sign_mem {z : Str} {i : Int} (h0 : 0 ≤ i) (h : i < z.length) : z.cps.toList.getD i.toNat 0 ∈ z.cps.toList := by
  have hk : i.toNat < z.cps.toList.length := by
    have : z.cps.toList.length = z.length := rfl
    omega
  rw [List.getD_eq_getElem?_getD, List.getElem?_eq_getElem hk]; exact List.getElem_mem hk
abbrev spIsName : Sp := SpD (α := Str) (fun z => [.str z]) (fun z => z.length ≤ 100) (fun z => .bool (isName z))
def spLisname : Sp := spIsName
abbrev spSign : Sp := SpR (α := Int) (fun n => [.int n]) (fun _ => True) (fun _ d => ∃ c : Nat, c < 128 ∧ d = .str ⟨#[c]⟩)
local macro_rules | `(tactic| walk_at "at") => `(tactic| first | exact atI_int (by omega) (by have := FeedOk.lo ‹FeedOk _›; omega) | exact atI_sign (by first | omega | exact Int.emod_nonneg _ (by decide +kernel)) (by first | omega | decide +kernel | (refine Int.lt_of_lt_of_le (Int.emod_lt_of_pos _ (by decide +kernel)) (by decide +kernel))))
local macro_rules | `(tactic| walk_at "pre") => `(tactic| first | trivial | omega)
local macro_rules | `(tactic| walk_at "arith") => `(tactic| first | omega | decide | (unfold CMul; omega) | (unfold CDiv; omega) | (unfold CPow; decide) | (refine ⟨?_, ?_⟩ <;> omega) | decide +kernel | (simp; done) | (simp; omega))
theorem isName_bools {z : Str} (b : Nat → Bool) (hb : ∀ i, i < z.length → b i = decide ((z.cps[i]?.getD 0) ∈ alpha.cps.toList)) : ((List.range z.length).map b).all id = ((List.range z.length).map fun i => decide ((z.cps[i]?.getD 0) ∈ alpha.cps.toList)).all id := by
  congr 1
  exact List.map_congr_left fun i hi => hb i (List.mem_range.mp hi)

theorem ok_is_name (T : Txt K mg A) : FnOk P w K mg base CX0 1 A.a_is_name A.d_is_name ["word"] spIsName := by
  refine T.F_is_name.ok sc_is_name (fun vs H Q E h => ?_) (fun cdv A' outer s H vs Q E hr h => ?_)
  · obtain ⟨G, x, _, hx, _⟩ := h
    exact hx.len
  · obtain ⟨G, z, s0, hx, hz, k⟩ := h
    obtain ⟨v0, rfl, h_word⟩ := dxs1 hx
    refine ⟨_, (pss_cons (ps_if (pt_not (pt_chain op_le op_le pe_int (pe_callB call_len_str (by rfl) T.b.len (by decide +kernel) (pa_cons (pv 0) pa_nil)) (pe_glob (v := .int 8) (by rfl) T.g_LONGEST_NAME ⟨_, rfl⟩)))
      (pss_one (ps_ret pe_bl))
      pss_nil)
      (pss_one (ps_ret (pe_callB (cr_allK (K := K) rfl) (by rfl) T.b.all (by decide +kernel) (pa_cons (pe_lc (own := [("sign", 1)]) (g := gName 1) rfl sc_is_name.nd (pi_str (pv 0)) (blkOk_by (own := [("sign", 1)]) (N := N_is_name) (sc := defScope s_is_name) (by decide +kernel)) (fun _ _ _ _ _ => pg_name (i := 1) sc_is_name.nd rfl (Or.inl rfl)) (fun _ _ _ _ _ => pts_nil) (fun _ _ _ _ _ => (pe_chain op_le_str op_le_str pe_str (pv 1) pe_str))) pa_nil))))), ?_⟩
    refine q_when (et_not (et_test (ev_chain ev_int (ev_cb (ea_cons (ev_var rfl h_word) ea_nil) (cd_lenS (by walk_at "arith"))) rd_le (fun _ => ev_int) (fun _ => rd_le)))) s0 (fun hb G1 H1 g1 => ?_) (fun hb G1 H1 g1 => ?_)
    · refine s_ret ev_bl g1.s fun v G2 H2 g2 hv => k v G2 H2 (g1.trans g2) ?_
      have e : isName z = false := by
        unfold isName
        rw [Bool.not_eq_true'] at hb
        rw [hb, Bool.false_and]
      show Dx G2 v (.bool (isName z))
      rw [e]; exact hv
    · have h_word := h_word.mono g1.g
      refine s_ret (ev_cb (ea_cons (ev_lcS (fun _ => true) (fun i => .bool (low (z.cps[i]?.getD 0))) (ev_var rfl h_word) (by omega) (fun _ => rfl) (fun i c hc => et_yes)
        (fun i c hc hf => ev_is ((fun h_sign => (ev_chain ev_str (ev_var rfl h_sign) rd_leS (fun _ => ev_str) (fun _ => rd_leS))) (Dx.str ⟨#[c]⟩)) (by rw [hc]; rfl))).dat ea_nil) (cd_all' (bs := (List.range z.length).map fun i => low (z.cps[i]?.getD 0)) (by rw [given_map, List.map_map]; rfl))) g1.s fun v G2 H2 g2 hv => k v G2 H2 (g1.trans g2) ?_
      have e : isName z = ((List.range z.length).map fun i => low (z.cps[i]?.getD 0)).all id := by
        unfold isName
        rw [Bool.not_eq_false'] at hb
        rw [hb, Bool.true_and, isName_bools _ fun i _ => low_eq _]
      show Dx G2 v (.bool (isName z))
      rw [e]; exact hv

theorem ok_Lis_name (T : Txt K mg A) : FnOk P w K mg base CX0 1 A.a_Lis_name A.d_Lis_name ["_law_word"] spIsName := by
  refine T.F_Lis_name.ok sc_Lis_name (fun vs H Q E h => ?_) (fun cdv A' outer s H vs Q E hr h => ?_)
  · obtain ⟨G, x, _, hx, _⟩ := h
    exact hx.len
  · obtain ⟨G, z, s0, hx, hz, k⟩ := h
    obtain ⟨v0, rfl, h_word⟩ := dxs1 hx
    refine ⟨_, (pss_one (ps_ret (pe_and (pe_chain op_le op_le pe_int (pe_callB call_len_str (by rfl) T.b.len (by decide +kernel) (pa_cons (pv 0) pa_nil)) pe_int) (pe_one (pe_callB (cr_allK (K := K) rfl) (by rfl) T.b.all (by decide +kernel) (pa_cons (pe_lc (own := [("_law_sign_here", 1)]) (g := gName 1) rfl sc_Lis_name.nd (pi_str (pv 0)) (blkOk_by (own := [("_law_sign_here", 1)]) (N := N_Lis_name) (sc := defScope s_Lis_name) (by decide +kernel)) (fun _ _ _ _ _ => pg_name (i := 1) sc_Lis_name.nd rfl (Or.inl rfl)) (fun _ _ _ _ _ => pts_nil) (fun _ _ _ _ _ => (pe_cmpR op_in_sign (pv 1) pe_str rfl))) pa_nil)))))), ?_⟩
    refine s_ret (ev_andV (ev_chain ev_int (ev_cb (ea_cons (ev_var rfl h_word) ea_nil) (cd_lenS (by walk_at "arith"))) rd_le (fun _ => ev_int) (fun _ => rd_le)) (fun _ => ev_cb (ea_cons (ev_lcS (fun _ => true) (fun i => .bool (decide ((z.cps[i]?.getD 0) ∈ alpha.cps.toList))) (ev_var rfl h_word) (by omega) (fun _ => rfl) (fun i c hc => et_yes)
        (fun i c hc hf => ev_is ((fun h_sign_here => (ev_op (ev_var rfl h_sign_here) ev_str rd_InC)) (Dx.str ⟨#[c]⟩)) (by rw [hc]; rfl))).dat ea_nil) (cd_all' (bs := (List.range z.length).map fun i => decide ((z.cps[i]?.getD 0) ∈ alpha.cps.toList)) (by rw [given_map, List.map_map]; rfl)))) s0 fun v G2 H2 g2 hv => k v G2 H2 g2 hv

theorem ok_Lsign (T : Txt K mg A) : FnOk P w K mg base CX0 1 A.a_Lsign A.d_Lsign ["_law_number"] spSign := by
  refine T.F_Lsign.ok sc_Lsign (fun vs H Q E h => ?_) (fun cdv A' outer s H vs Q E hr h => ?_)
  · obtain ⟨G, x, _, hx, _⟩ := h
    exact hx.len
  · obtain ⟨G, n, s0, hx, _, k⟩ := h
    obtain ⟨v0, rfl, h_number⟩ := dxs1 hx
    refine ⟨_, (pss_cons (ps_set (i := 1) sc_Lsign.nd rfl (Or.inl rfl) pe_str)
      (pss_cons (ps_if (pt_cmpR op_eq (pe_op op_mod (pv 0) pe_int) pe_int (nomark _))
      (pss_one (ps_ret (pe_ix ix_str (pv 1) (pe_op op_mod (pe_op op_fdiv (pv 0) pe_int) (pe_callB call_len_str (by rfl) T.b.len (by decide +kernel) (pa_cons (pv 1) pa_nil))) (fun _ _ => rfl))))
      pss_nil)
      (pss_one (ps_ret (pe_ix ix_str pe_str (pe_op op_mod (pe_op op_fdiv (pv 0) pe_int) pe_int) (fun _ _ => rfl)))))), ?_⟩
    refine q_asg ev_str s0 fun v G1 H1 g1 h_other => ?_
    have h_number := h_number.mono g1.g
    have hlen : ((" !\"#$&'()*+,-./0123456789:;<=>?@ABCDEFGHIJKLMNOPQRSTUVWXYZ[\\]^_`{|}~\n" : Str).length : Int) = 69 := by decide +kernel
    refine q_when (et_test (ev_op (ev_op (ev_var rfl h_number) ev_int (rd_mod (by walk_at "arith"))) ev_int rd_eqI)) g1.s (fun hb G2 H2 g2 => ?_) (fun hb G2 H2 g2 => ?_)
    · have h_number := h_number.mono g2.g; have h_other := h_other.mono g2.g
      refine s_ret (ev_op (ev_var rfl h_other) (ev_op (ev_op (ev_var rfl h_number) ev_int (rd_fdiv (by walk_at "arith"))) (ev_cb (ea_cons (ev_var rfl h_other) ea_nil) (cd_lenS (by walk_at "arith"))) (rd_mod (by walk_at "arith"))) (rd_ixS (by walk_at "arith") (by walk_at "at"))) g2.s fun v G3 H3 g3 hv => k v _ G3 H3 ((g1.trans g2).trans g3) ⟨_, ?_, rfl⟩ hv
      have go : ∀ c ∈ (" !\"#$&'()*+,-./0123456789:;<=>?@ABCDEFGHIJKLMNOPQRSTUVWXYZ[\\]^_`{|}~\n" : Str).cps.toList, c < 128 := by decide +kernel
      exact go _ (sign_mem (Int.emod_nonneg _ (by rw [hlen]; decide)) (Int.emod_lt_of_pos _ (by rw [hlen]; decide)))
    · have h_number := h_number.mono g2.g
      refine s_ret (ev_op ev_str (ev_op (ev_op (ev_var rfl h_number) ev_int (rd_fdiv (by walk_at "arith"))) ev_int (rd_mod (by walk_at "arith"))) (rd_ixS (by walk_at "arith") (by walk_at "at"))) g2.s fun v G3 H3 g3 hv => k v _ G3 H3 ((g1.trans g2).trans g3) ⟨_, ?_, rfl⟩ hv
      have go : ∀ c ∈ alpha.cps.toList, c < 128 := by rw [alpha_eq]; decide
      exact go _ (sign_mem (z := alpha) (Int.emod_nonneg _ (by decide)) (Int.lt_of_lt_of_le (Int.emod_lt_of_pos _ (by decide)) (by decide +kernel)))

def spLaw (K : PySem.W.Frag) : Sp := fun vs H Q _ => ∃ (a : Addr) (ns : List Int), vs = [.ref a] ∧ SqL K H a (ns.map V.int) ∧ ns.length ≤ 63 ∧ (∀ z ∈ ns, Builtin.Int.intBits z ≤ 1048576) ∧ ∀ H', Q (.bl true) H'
theorem ok_Law (T : Txt K mg A) : FnOk P w K mg base CX0 9 A.a_Law A.d_Law ["_law_script"] (spLaw K) := by
  have G_Lfeed := ok_Lfeed (P := P) (w := w) (base := base) T
  have G_is_name := ok_is_name (P := P) (w := w) (base := base) T
  have G_Lis_name := ok_Lis_name (P := P) (w := w) (base := base) T
  have G_Lsign := ok_Lsign (P := P) (w := w) (base := base) T
  have G_Lsame : FnOk P w K mg base CX0 1 A.a_Lsame A.d_Lsame ["_law_found", "_law_due"] (spSame 0) := ok_Lsame T 1
  refine T.F_Law.ok sc_Law (fun vs H Q E h => ?_) (fun cdv A' outer s H vs Q E hr h => ?_)
  · obtain ⟨a, ns, rfl, _⟩ := h
    rfl
  · obtain ⟨a, ns, rfl, hS, hlen, _, k⟩ := h
    refine ⟨_, (pss_cons (ps_set (i := 1) sc_Law.nd rfl (Or.inl rfl) (pe_call G_Lfeed (hr.mono (by omega)) (by rfl) T.m_Lfeed T.F_Lfeed.kp T.b_Lfeed .nil pass0 (pa_cons (pv 0) pa_nil)))
      (pss_cons (ps_set (i := 2) sc_Law.nd rfl (Or.inl rfl) pe_str)
      (pss_cons (ps_for PassesOwn.never rfl (pi_range1 (by rfl) T.b.range (pa_cons (pe_op op_mod (pe_ix (ix_listK (K := K)) (pv 1) pe_int (fun _ _ => rfl)) pe_int) pa_nil)) (pg_name (i := 3) sc_Law.nd rfl (Or.inl rfl))
      (pss_cons (ps_set (i := 4) sc_Law.nd rfl (Or.inl rfl) (pe_call G_Lsign (hr.mono (by omega)) (by rfl) T.m_Lsign T.F_Lsign.kp T.b_Lsign .nil pass0 (pa_cons (pe_ix (ix_listK (K := K)) (pv 1) (pe_op op_add pe_int (pv 3)) (fun _ _ => rfl)) pa_nil)))
      (pss_cons (ps_if (PW.pt (pw_and (pt_cmpR op_eq (pe_op op_mod (pe_ix (ix_listK (K := K)) (pv 1) pe_int (fun _ _ => rfl)) pe_int) pe_int (nomark _)) (pw_and1 (pt_cmpR op_ne (pv 3) (pe_op op_mod (pe_ix (ix_listK (K := K)) (pv 1) pe_int (fun _ _ => rfl)) pe_int) (nomark _)))))
      (pss_one (ps_set (i := 4) sc_Law.nd rfl (Or.inl rfl) (pe_call G_Lsign (hr.mono (by omega)) (by rfl) T.m_Lsign T.F_Lsign.kp T.b_Lsign .nil pass0 (pa_cons (pe_op op_add pe_int (pe_op op_mul pe_int (pe_ix (ix_listK (K := K)) (pv 1) (pe_op op_add pe_int (pv 3)) (fun _ _ => rfl)))) pa_nil))))
      pss_nil)
      (pss_one (ps_set (i := 2) sc_Law.nd rfl (Or.inl rfl) (pe_op op_add_str (pv 2) (pv 4)))))))
      (pss_one (ps_ret (pe_call G_Lsame (hr.mono (by omega)) (by rfl) T.m_Lsame T.F_Lsame.kp T.b_Lsame .nil pass0 (pa_cons (pe_call G_is_name (hr.mono (by omega)) (by rfl) T.m_is_name T.F_is_name.kp T.b_is_name .nil pass0 (pa_cons (pv 2) pa_nil)) (pa_cons (pe_call G_Lis_name (hr.mono (by omega)) (by rfl) T.m_Lis_name T.F_Lis_name.kp T.b_Lis_name .nil pass0 (pa_cons (pv 2) pa_nil)) pa_nil)))))))), ?_⟩
    refine q_feed rfl hS hlen fun l fs G1 H1 hok g1 h_feed_here => ?_
    refine q_asg ev_str g1.s fun v G2 H2 g2 hv => ?_
    obtain rfl := hv.str_eq
    have h_feed_here := h_feed_here.mono g2.g
    have hlo := hok.lo
    refine q_forR [] (fun n σ' G' H' => ∃ (z : Str) (v3 v4 : Option V), σ' = [some (.ref a), some (.ref l), some (.str z), v3, v4] ∧ z.length = n)
      (ea_cons (ev_op (ev_op (ev_var rfl h_feed_here) ev_int (rd_ixL (by walk_at "at"))) ev_int (rd_mod (by walk_at "arith"))) ea_nil) (by omega) g2.s (fun G3 H3 g3 => ⟨_, _, _, rfl, rfl⟩) (fun G3 H3 g3 n σ' G' H' hn2 gg p => ?_) (fun σ' G' H' gg p => ?_)
    · obtain ⟨z, v3, v4, rfl, hz⟩ := p
      have h_feed_here := h_feed_here.mono (g3.trans gg).g
      have h_k : Dx G' (.int (n : Int)) (.int (n : Int)) := .int _
      refine q_asgP (ev_callR _ (ea_is (ea_cons (ev_op (ev_var rfl h_feed_here) (ev_op ev_int (ev_var rfl h_k) rd_add) (rd_ixL (by walk_at "at"))) ea_nil) rfl) (by walk_at "pre")) gg.s fun v d G4 H4 g4 hd hv => ?_
      obtain ⟨c, hc, rfl⟩ := hd
      obtain rfl := hv.str_eq
      have h_feed_here := h_feed_here.mono g4.g
      have h_k : Dx G4 (.int (n : Int)) (.int (n : Int)) := .int _
      have last : ∀ (c : Nat) (D : Ends) (G5 H5 : Hp), D.nx = Nx [] G3 H3 (fun n σ' G' H' => ∃ (z : Str) (v3 v4 : Option V), σ' = [some (.ref a), some (.ref l), some (.str z), v3, v4] ∧ z.length = n) (n + 1) → Gr [] G4 H4 G5 H5 →
          tAsg (tOp (fun x y H Q => ∃ i j, x = .str i ∧ y = .str j ∧ i.length + j.length ≤ sizeLine ∧ Q (.str (i ++ j)) H) (tVar 2) (tVar 4)) (gName 2) D [some (.ref a), some (.ref l), some (.str z), some (.int (n : Int)), some (.str ⟨#[c]⟩)] H5 := fun c D G5 H5 hD g5 => by
        refine s_asg (ev_op (ev_var rfl (.str z)) (ev_var rfl (.str ⟨#[c]⟩)) (rd_addS (by show z.length + 1 ≤ 100000; omega))) g5.s fun v G6 H6 g6 hv => ?_
        obtain rfl := hv.str_eq
        rw [hD]
        refine ⟨G6, ((gg.trans g4).trans g5).trans g6, _, _, _, rfl, ?_⟩
        show (z.cps ++ #[c]).size = n + 1
        rw [Array.size_append]
        show z.length + 1 = n + 1
        omega
      refine q_when (et_and (et_test (ev_op (ev_op (ev_op (ev_var rfl h_feed_here) ev_int (rd_ixL (by walk_at "at"))) ev_int (rd_mod (by walk_at "arith"))) ev_int rd_eqI)) (fun _ => (et_test (ev_op (ev_var rfl h_k) (ev_op (ev_op (ev_var rfl h_feed_here) ev_int (rd_ixL (by walk_at "at"))) ev_int (rd_mod (by walk_at "arith"))) rd_neI)))) g4.s (fun hb G5 H5 g5 => ?_) (fun hb G5 H5 g5 => ?_)
      · have h_feed_here := h_feed_here.mono g5.g
        have h_k : Dx G5 (.int (n : Int)) (.int (n : Int)) := .int _
        refine s_asgP (ev_callR _ (ea_is (ea_cons (ev_op ev_int (ev_op ev_int (ev_op (ev_var rfl h_feed_here) (ev_op ev_int (ev_var rfl h_k) rd_add) (rd_ixL (by walk_at "at"))) (rd_mul (by walk_at "arith"))) rd_add) ea_nil) rfl) (by walk_at "pre")) g5.s fun v d G6 H6 g6 hd hv => ?_
        obtain ⟨c, hc, rfl⟩ := hd
        obtain rfl := hv.str_eq
        exact last c _ G6 H6 rfl (g5.trans g6)
      · exact last c _ G5 H5 rfl g5
    · obtain ⟨z, v3, v4, rfl, hz⟩ := p
      have h_word : Dx G' (.str z) (.str z) := .str z
      have hz2 : z.length ≤ 100 := by omega
      refine s_ret (ev_call (PyData.bool (isName z)) (ea_cons (ev_call _ (ea_is (ea_cons (ev_var rfl h_word) ea_nil) rfl) (by walk_at "pre")) (ea_cons (ev_call _ (ea_is (ea_cons (ev_var rfl h_word) ea_nil) rfl) (by walk_at "pre")) ea_nil)) ⟨Nat.zero_le _, rfl⟩) gg.s fun v G4 H4 g4 hv => ?_
      obtain rfl := hv.bl_eq
      exact k H4

end
theorem all_mk {l : PySem.W.OpenLaw} {w : World} {K : PySem.W.Frag} {h : Heap} {mg : Str → Option Value} {fa f0 f1 f2 f3 f4 f5 : Addr} (X : K.In h) (G : h.Ns mainGlobals mg) (hfa : mg "law" = some (.ref fa))
    {od0 an0 od1 an1 od2 an2 od3 an3 od4 an4 od5 an5 : Option Addr} {sl0 sl1 sl2 sl3 sl4 sl5 : Array (Option Value)} {oc0 kV0 dc0 pm0 cd0 ct0 oc1 kV1 dc1 pm1 cd1 ct1 oc2 kV2 dc2 pm2 cd2 ct2 oc3 kV3 dc3 pm3 cd3 ct3 oc4 kV4 dc4 pm4 cd4 ct4 oc5 kV5 dc5 pm5 cd5 ct5 : Value}
    {t_LONGEST_NAME : Tok} (g_LONGEST_NAME : PySem.W.nsIn K mainGlobals "LONGEST_NAME" = some (some (.int 8 t_LONGEST_NAME)))
    (a0 : PySem.W.nsIn K mainGlobals "is_name" = some (some (.ref f0))) (l0 : K.lookup f0 = some ⟨oc0, od0, .func (PySem.W.fnOf "is_name" "is_name" (defArgs s_is_name) (defBody s_is_name) (defScope s_is_name) .none kV0 dc0 pm0 an0 cd0 ct0), sl0⟩) (c0 : PySem.W.codeIn K cd0 "is_name" = true) (k0 : PySem.W.keepIn K (.ref f0) = true)
    (a1 : PySem.W.nsIn K mainGlobals "_law_feed" = some (some (.ref f1))) (l1 : K.lookup f1 = some ⟨oc1, od1, .func (PySem.W.fnOf "_law_feed" "_law_feed" (defArgs s_Lfeed) (defBody s_Lfeed) (defScope s_Lfeed) .none kV1 dc1 pm1 an1 cd1 ct1), sl1⟩) (c1 : PySem.W.codeIn K cd1 "_law_feed" = true) (k1 : PySem.W.keepIn K (.ref f1) = true)
    (a2 : PySem.W.nsIn K mainGlobals "_law_same" = some (some (.ref f2))) (l2 : K.lookup f2 = some ⟨oc2, od2, .func (PySem.W.fnOf "_law_same" "_law_same" (defArgs s_Lsame) (defBody s_Lsame) (defScope s_Lsame) .none kV2 dc2 pm2 an2 cd2 ct2), sl2⟩) (c2 : PySem.W.codeIn K cd2 "_law_same" = true) (k2 : PySem.W.keepIn K (.ref f2) = true)
    (a3 : PySem.W.nsIn K mainGlobals "_law_is_name" = some (some (.ref f3))) (l3 : K.lookup f3 = some ⟨oc3, od3, .func (PySem.W.fnOf "_law_is_name" "_law_is_name" (defArgs s_Lis_name) (defBody s_Lis_name) (defScope s_Lis_name) .none kV3 dc3 pm3 an3 cd3 ct3), sl3⟩) (c3 : PySem.W.codeIn K cd3 "_law_is_name" = true) (k3 : PySem.W.keepIn K (.ref f3) = true)
    (a4 : PySem.W.nsIn K mainGlobals "_law_sign" = some (some (.ref f4))) (l4 : K.lookup f4 = some ⟨oc4, od4, .func (PySem.W.fnOf "_law_sign" "_law_sign" (defArgs s_Lsign) (defBody s_Lsign) (defScope s_Lsign) .none kV4 dc4 pm4 an4 cd4 ct4), sl4⟩) (c4 : PySem.W.codeIn K cd4 "_law_sign" = true) (k4 : PySem.W.keepIn K (.ref f4) = true)
    (a5 : PySem.W.nsIn K mainGlobals "law" = some (some (.ref f5))) (l5 : K.lookup f5 = some ⟨oc5, od5, .func (PySem.W.fnOf "law" "law" (defArgs s_Law) (defBody s_Law) (defScope s_Law) .none kV5 dc5 pm5 an5 cd5 ct5), sl5⟩) (c5 : PySem.W.codeIn K cd5 "law" = true) (k5 : PySem.W.keepIn K (.ref f5) = true)
    (z_len : PySem.W.nsIn K mainGlobals "len" = some none)
    (z_range : PySem.W.nsIn K mainGlobals "range" = some none)
    (z_abs : PySem.W.nsIn K mainGlobals "abs" = some none)
    (z_int : PySem.W.nsIn K mainGlobals "int" = some none)
    (z_sum : PySem.W.nsIn K mainGlobals "sum" = some none)
    (z_isinstance : PySem.W.nsIn K mainGlobals "isinstance" = some none)
    (z_tuple : PySem.W.nsIn K mainGlobals "tuple" = some none)
    (z_list : PySem.W.nsIn K mainGlobals "list" = some none)
    (z_all : PySem.W.nsIn K mainGlobals "all" = some none)
    (z_bool : PySem.W.nsIn K mainGlobals "bool" = some none)
    (z_max : PySem.W.nsIn K mainGlobals "max" = some none)
    (z_enumerate : PySem.W.nsIn K mainGlobals "enumerate" = some none)
    (z_sorted : PySem.W.nsIn K mainGlobals "sorted" = some none)
    (z_str : PySem.W.nsIn K mainGlobals "str" = some none)
    : ∃ fd : FuncData, (∀ (s : Shared) (v : Value), BindsTo s fd ⟨[v], []⟩ [("_law_script", v)]) ∧ ∀ base : Heap, K.In base → base.Ns mainGlobals mg → FnOk l.prog w K mg base CX0 9 fa fd ["_law_script"] (spLaw K) := by
  have e := hfa.symm.trans (PySem.W.mg_of X G a5)
  cases e
  have F0 := fun_mk (st := s_is_name) l0 c0 k0
  have b0 := F0.binds (ps := ["word"]) fun _ _ _ _ _ _ us hl => match us, hl with | [_], _ => rfl
  have F1 := fun_mk (st := s_Lfeed) l1 c1 k1
  have b1 := F1.binds (ps := ["_law_script"]) fun _ _ _ _ _ _ us hl => match us, hl with | [_], _ => rfl
  have F2 := fun_mk (st := s_Lsame) l2 c2 k2
  have b2 := F2.binds (ps := ["_law_found", "_law_due"]) fun _ _ _ _ _ _ us hl => match us, hl with | [_, _], _ => rfl
  have F3 := fun_mk (st := s_Lis_name) l3 c3 k3
  have b3 := F3.binds (ps := ["_law_word"]) fun _ _ _ _ _ _ us hl => match us, hl with | [_], _ => rfl
  have F4 := fun_mk (st := s_Lsign) l4 c4 k4
  have b4 := F4.binds (ps := ["_law_number"]) fun _ _ _ _ _ _ us hl => match us, hl with | [_], _ => rfl
  have F5 := fun_mk (st := s_Law) l5 c5 k5
  have b5 := F5.binds (ps := ["_law_script"]) fun _ _ _ _ _ _ us hl => match us, hl with | [_], _ => rfl
  refine ⟨_, fun s v => .of_eq rfl, fun base _ _ => ok_Law (A := ⟨_, _, _, _, _, _, _, _, _, _, _, _, _⟩) ⟨⟨PySem.W.mg_none_of X G z_len, PySem.W.mg_none_of X G z_range, PySem.W.mg_none_of X G z_abs, PySem.W.mg_none_of X G z_int, PySem.W.mg_none_of X G z_sum, PySem.W.mg_none_of X G z_isinstance, PySem.W.mg_none_of X G z_tuple, PySem.W.mg_none_of X G z_list, PySem.W.mg_none_of X G z_all, PySem.W.mg_none_of X G z_bool, PySem.W.mg_none_of X G z_max, PySem.W.mg_none_of X G z_enumerate, PySem.W.mg_none_of X G z_sorted, PySem.W.mg_none_of X G z_str⟩, PySem.W.mg_of X G g_LONGEST_NAME, PySem.W.mg_of X G a0, F0, b0, PySem.W.mg_of X G a1, F1, b1, PySem.W.mg_of X G a2, F2, b2, PySem.W.mg_of X G a3, F3, b3, PySem.W.mg_of X G a4, F4, b4, PySem.W.mg_of X G a5, F5, b5⟩⟩
end My
open PySem PySem.W PyProof.Rows
set_option maxRecDepth 100000 in
set_option maxHeartbeats 0 in
theorem PySem.Challenge.cw_allonge_k01_names_holds : PySem.Challenge.rw_allonge_k01_names.Holds := by
  w_on; o_law; k_head; (case hw => w_witness2)
  k_fill
  refine L2.walk_ofB (l := PySem.Challenge.rw_allonge_k01_names) (n := 63) (k := 9) (x := "_law_script") (CX := fun _ => L2.CX0) (sp := fun w => My.spLaw _) rfl (by decide) rfl ⟨rfl, by decide, by decide⟩ (fun w h Y => PySem.W.kIn_of Y) ?F (fun _ _ a ns hl hb _ hS => ⟨a, ns, rfl, hS, hl, hb, fun _ => rfl⟩) (fun _ _ _ _ _ h => h)
  case F =>
    intro w mg fa h KX G hmg
    refine' My.all_mk KX G hmg ?g_LONGEST_NAME ?a0 ?l0 ?c0 ?k0 ?a1 ?l1 ?c1 ?k1 ?a2 ?l2 ?c2 ?k2 ?a3 ?l3 ?c3 ?k3 ?a4 ?l4 ?c4 ?k4 ?a5 ?l5 ?c5 ?k5 ?z_len ?z_range ?z_abs ?z_int ?z_sum ?z_isinstance ?z_tuple ?z_list ?z_all ?z_bool ?z_max ?z_enumerate ?z_sorted ?z_str
    (case g_LONGEST_NAME => k_is)
    (case a0 => k_is)
    (case l0 => k_is)
    (case c0 => k_is)
    (case k0 => k_is)
    (case a1 => k_is)
    (case l1 => k_is)
    (case c1 => k_is)
    (case k1 => k_is)
    (case a2 => k_is)
    (case l2 => k_is)
    (case c2 => k_is)
    (case k2 => k_is)
    (case a3 => k_is)
    (case l3 => k_is)
    (case c3 => k_is)
    (case k3 => k_is)
    (case a4 => k_is)
    (case l4 => k_is)
    (case c4 => k_is)
    (case k4 => k_is)
    (case a5 => k_is)
    (case l5 => k_is)
    (case c5 => k_is)
    (case k5 => k_is)
    (case z_len => k_is)
    (case z_range => k_is)
    (case z_abs => k_is)
    (case z_int => k_is)
    (case z_sum => k_is)
    (case z_isinstance => k_is)
    (case z_tuple => k_is)
    (case z_list => k_is)
    (case z_all => k_is)
    (case z_bool => k_is)
    (case z_max => k_is)
    (case z_enumerate => k_is)
    (case z_sorted => k_is)
    (case z_str => k_is)