import PyProof.Rows.All
import Wide.All
import OpenK.AllK
import Wide.FinOn
import HandS.ForMost
import HandS.Wide
import HandS.IsInst
import HandS.EndBits
import HandS.Evl
import HandS.Star
import PySem.Challenge.RW_allonge_k06_whole_one_bearer
set_option Elab.async false
set_option linter.all false
set_option maxRecDepth 100000
set_option maxHeartbeats 4000000

namespace Gd
open PySem L2

/-! ### data heaps -/
def Sb (G H : Hp) : Prop := ∀ a o, G a = some o → H a = some o
theorem Sb.refl (H : Hp) : Sb H H := fun _ _ h => h
theorem Sb.trans {A B C : Hp} (x : Sb A B) (y : Sb B C) : Sb A C := fun a o h => y a o (x a o h)
theorem Sb.new {G : Hp} {p : Addr} {o : HO} (h : G p = none) : Sb G (upd G p o) := fun a u e => by
  rw [upd_ne (ne_of_none e h)]; exact e
theorem Sb.both {G H : Hp} {p : Addr} {o : HO} (s : Sb G H) : Sb (upd G p o) (upd H p o) := fun a u e => by
  by_cases h : a = p
  · subst h; rw [upd_same] at e ⊢; exact e
  · rw [upd_ne h] at e ⊢; exact s a u e
theorem Sb.add {G H : Hp} {p : Addr} {o : HO} (s : Sb G H) (h : H p = some o) : Sb (upd G p o) H := fun a u e => by
  by_cases q : a = p
  · subst q; rw [upd_same] at e; rw [h]; exact e
  · rw [upd_ne q] at e; exact s a u e
theorem Sb.mut {G H : Hp} {p : Addr} {o : HO} (s : Sb G H) (h : G p = none) : Sb G (upd H p o) := fun a u e => by
  rw [upd_ne (ne_of_none e h)]; exact s a u e
theorem Sb.none {G H : Hp} {p : Addr} (s : Sb G H) (h : H p = none) : G p = none := by
  cases q : G p with
  | none => rfl
  | some o => rw [s p o q] at h; cases h

mutual
inductive Dx (G : Hp) : V → PyData → Prop
  | non : Dx G .non .none
  | bl (b : Bool) : Dx G (.bl b) (.bool b)
  | int (i : Int) : Dx G (.int i) (.int i)
  | str (x : Str) : Dx G (.str x) (.str x)
  | lst {a : Addr} {xs : List V} {ds : List PyData} : G a = some (.lst xs) → Dxs G xs ds → Dx G (.ref a) (.list ds)
  | tup {a : Addr} {xs : List V} {ds : List PyData} : G a = some (.tup xs) → Dxs G xs ds → Dx G (.ref a) (.tuple ds)
inductive Dxs (G : Hp) : List V → List PyData → Prop
  | nil : Dxs G [] []
  | cons {v : V} {vs : List V} {d : PyData} {ds : List PyData} : Dx G v d → Dxs G vs ds → Dxs G (v :: vs) (d :: ds)
end
mutual
theorem Dx.mono {G H : Hp} (s : Sb G H) : ∀ {v : V} {d : PyData}, Dx G v d → Dx H v d
  | _, _, .non => .non
  | _, _, .bl b => .bl b
  | _, _, .int i => .int i
  | _, _, .str x => .str x
  | _, _, .lst h a => .lst (s _ _ h) (Dxs.mono s a)
  | _, _, .tup h a => .tup (s _ _ h) (Dxs.mono s a)
theorem Dxs.mono {G H : Hp} (s : Sb G H) : ∀ {vs : List V} {ds : List PyData}, Dxs G vs ds → Dxs H vs ds
  | _, _, .nil => .nil
  | _, _, .cons h t => .cons (Dx.mono s h) (Dxs.mono s t)
end
mutual
theorem Dx.dp {K : PySem.W.Frag} {G : Hp} : ∀ {v : V} {d : PyData}, Dx G v d → Dp K G v d
  | _, _, .non => .non
  | _, _, .bl b => .bl b
  | _, _, .int i => .int i
  | _, _, .str x => .str x
  | _, _, .lst h a => .lst (Or.inl (Or.inl h)) (Dxs.dp a)
  | _, _, .tup h a => .tup (Or.inl (Or.inl h)) (Dxs.dp a)
theorem Dxs.dp {K : PySem.W.Frag} {G : Hp} : ∀ {vs : List V} {ds : List PyData}, Dxs G vs ds → DpAll K G vs ds
  | _, _, .nil => .nil
  | _, _, .cons h t => .cons (Dx.dp h) (Dxs.dp t)
end
theorem Dx.int_eq {G : Hp} {v : V} {i : Int} (h : Dx G v (.int i)) : v = .int i := by cases h; rfl
theorem Dx.bl_eq {G : Hp} {v : V} {b : Bool} (h : Dx G v (.bool b)) : v = .bl b := by cases h; rfl
theorem Dx.str_eq {G : Hp} {v : V} {z : Str} (h : Dx G v (.str z)) : v = .str z := by cases h; rfl
theorem Dx.non_eq {G : Hp} {v : V} (h : Dx G v .none) : v = .non := by cases h; rfl
theorem Dx.lst_eq {G : Hp} {v : V} {ds : List PyData} (h : Dx G v (.list ds)) : ∃ a xs, v = .ref a ∧ G a = some (.lst xs) ∧ Dxs G xs ds := by
  cases h with | lst h a => exact ⟨_, _, rfl, h, a⟩
theorem Dx.tup_eq {G : Hp} {v : V} {ds : List PyData} (h : Dx G v (.tuple ds)) : ∃ a xs, v = .ref a ∧ G a = some (.tup xs) ∧ Dxs G xs ds := by
  cases h with | tup h a => exact ⟨_, _, rfl, h, a⟩
theorem Dxs.len {G : Hp} : ∀ {vs : List V} {ds : List PyData}, Dxs G vs ds → vs.length = ds.length
  | _, _, .nil => rfl
  | _, _, .cons _ t => congrArg (· + 1) (Dxs.len t)
theorem Dxs.get {G : Hp} : ∀ {vs : List V} {ds : List PyData} {i : Nat} {d : PyData}, Dxs G vs ds → ds[i]? = some d → ∃ v, vs[i]? = some v ∧ Dx G v d
  | _, _, 0, _, .cons h _, e => by cases e; exact ⟨_, rfl, h⟩
  | _, _, i + 1, _, .cons _ t, e => Dxs.get (i := i) t e
theorem Dxs.getV {G : Hp} : ∀ {vs : List V} {ds : List PyData} {i : Nat} {v : V}, Dxs G vs ds → vs[i]? = some v → ∃ d, ds[i]? = some d ∧ Dx G v d
  | _, _, 0, _, .cons h _, e => by cases e; exact ⟨_, rfl, h⟩
  | _, _, i + 1, _, .cons _ t, e => Dxs.getV (i := i) t e
theorem Dxs.app {G : Hp} : ∀ {vs ws : List V} {ds es : List PyData}, Dxs G vs ds → Dxs G ws es → Dxs G (vs ++ ws) (ds ++ es)
  | _, _, _, _, .nil, t => t
  | _, _, _, _, .cons h t, u => .cons h (Dxs.app t u)
theorem Dxs.one {G : Hp} {v : V} {d : PyData} (h : Dx G v d) : Dxs G [v] [d] := .cons h .nil
theorem Dxs.take {G : Hp} : ∀ {vs : List V} {ds : List PyData} (n : Nat), Dxs G vs ds → Dxs G (vs.take n) (ds.take n)
  | _, _, 0, _ => .nil
  | _, _, _ + 1, .nil => .nil
  | _, _, n + 1, .cons h t => .cons h (Dxs.take n t)
theorem Dxs.drop {G : Hp} : ∀ {vs : List V} {ds : List PyData} (n : Nat), Dxs G vs ds → Dxs G (vs.drop n) (ds.drop n)
  | _, _, 0, h => h
  | _, _, _ + 1, .nil => .nil
  | _, _, n + 1, .cons _ t => Dxs.drop n t
theorem Dxs.ints {G : Hp} : ∀ (ns : List Int), Dxs G (ns.map V.int) (ns.map PyData.int)
  | [] => .nil
  | n :: r => .cons (.int n) (Dxs.ints r)
theorem Dxs.ints_eq {G : Hp} : ∀ {vs : List V} {ns : List Int}, Dxs G vs (ns.map PyData.int) → vs = ns.map V.int
  | _, [], .nil => rfl
  | _, n :: r, .cons h t => by rw [Dx.int_eq h, Dxs.ints_eq t]; rfl
theorem Dxs.bls_eq {G : Hp} : ∀ {vs : List V} {bs : List Bool}, Dxs G vs (bs.map PyData.bool) → vs = bs.map V.bl
  | _, [], .nil => rfl
  | _, n :: r, .cons h t => by rw [Dx.bl_eq h, Dxs.bls_eq t]; rfl
theorem Dxs.strs_eq {G : Hp} : ∀ {vs : List V} {zs : List Str}, Dxs G vs (zs.map PyData.str) → vs = zs.map V.str
  | _, [], .nil => rfl
  | _, n :: r, .cons h t => by rw [Dx.str_eq h, Dxs.strs_eq t]; rfl

/-! ### growing: G within H, M may change -/
structure Gr (M : List Addr) (G H G' H' : Hp) : Prop where
  g : Sb G G'
  s : Sb G' H'
  h : ∀ a o, a ∉ M → H a = some o → H' a = some o
  t : ∀ a o, H a = some o → ∃ o', H' a = some o'
  n : ∀ a o, H a = some o → G a = none → G' a = none
theorem Gr.refl {M : List Addr} {G H : Hp} (s : Sb G H) : Gr M G H G H := ⟨Sb.refl G, s, fun _ _ _ h => h, fun _ o h => ⟨o, h⟩, fun _ _ _ h => h⟩
theorem Gr.trans {M : List Addr} {G H G1 H1 G2 H2 : Hp} (x : Gr M G H G1 H1) (y : Gr M G1 H1 G2 H2) : Gr M G H G2 H2 :=
  ⟨x.g.trans y.g, y.s, fun a o m e => y.h a o m (x.h a o m e), fun a o e => by obtain ⟨o', e'⟩ := x.t a o e; exact y.t a o' e',
   fun a o e e0 => by obtain ⟨o', e'⟩ := x.t a o e; exact y.n a o' e' (x.n a o e e0)⟩
theorem Gr.mono {M N : List Addr} {G H G' H' : Hp} (x : Gr M G H G' H') (h : ∀ a ∈ M, a ∈ N) : Gr N G H G' H' :=
  ⟨x.g, x.s, fun a o m e => x.h a o (fun z => m (h a z)) e, x.t, x.n⟩
theorem Gr.any {N : List Addr} {G H G' H' : Hp} (x : Gr [] G H G' H') : Gr N G H G' H' := x.mono fun _ z => nomatch z
theorem Gr.free {M : List Addr} {G H G' H' : Hp} (x : Gr M G H G' H') {p : Addr} (h : H' p = none) : H p = none := by
  cases q : H p with
  | none => rfl
  | some o => obtain ⟨o', e⟩ := x.t p o q; rw [e] at h; cases h
/-- a new object that is data at once -/
theorem Gr.data {M : List Addr} {G H G' H' : Hp} (x : Gr M G H G' H') {p : Addr} {o : HO} (h : H' p = none) : Gr M G H (upd G' p o) (upd H' p o) :=
  ⟨x.g.trans (Sb.new (x.s.none h)), x.s.both, fun a u m e => by rw [upd_ne (ne_of_none (x.h a u m e) h)]; exact x.h a u m e,
   fun a u e => by obtain ⟨o', e'⟩ := x.t a u e; exact ⟨o', by rw [upd_ne (ne_of_none e' h)]; exact e'⟩,
   fun a u e e0 => by obtain ⟨o', e'⟩ := x.t a u e; rw [upd_ne (ne_of_none e' h)]; exact x.n a u e e0⟩
/-- a new object that is not data yet -/
theorem Gr.own {M : List Addr} {G H G' H' : Hp} (x : Gr M G H G' H') {p : Addr} {o : HO} (h : H' p = none) : Gr M G H G' (upd H' p o) :=
  ⟨x.g, x.s.mut (x.s.none h), fun a u m e => by rw [upd_ne (ne_of_none (x.h a u m e) h)]; exact x.h a u m e,
   fun a u e => by obtain ⟨o', e'⟩ := x.t a u e; exact ⟨o', by rw [upd_ne (ne_of_none e' h)]; exact e'⟩, x.n⟩
/-- an own object becomes data -/
theorem Gr.freeze {M : List Addr} {G H G' H' : Hp} (x : Gr M G H G' H') {p : Addr} {o : HO} (h : H' p = some o) (hn : G' p = none) (h0 : H p = none) : Gr M G H (upd G' p o) H' :=
  ⟨x.g.trans (Sb.new hn), x.s.add h, x.h, x.t, fun a u e e0 => by
    have ne : a ≠ p := fun q => by subst q; rw [h0] at e; cases e
    rw [upd_ne ne]; exact x.n a u e e0⟩
/-- an own object is written -/
theorem Gr.write {M : List Addr} {G H G' H' : Hp} (x : Gr M G H G' H') {p : Addr} {o : HO} (hm : p ∈ M ∨ H p = none) (hn : G' p = none) : Gr M G H G' (upd H' p o) :=
  ⟨x.g, x.s.mut hn, fun a u m e => by
    have ne : a ≠ p := fun q => by
      subst q
      rcases hm with hm | hm
      · exact m hm
      · rw [hm] at e; cases e
    rw [upd_ne ne]; exact x.h a u m e,
   fun a u e => by
    by_cases ne : a = p
    · subst ne; exact ⟨o, upd_same⟩
    · obtain ⟨o', e'⟩ := x.t a u e; exact ⟨o', by rw [upd_ne ne]; exact e'⟩, x.n⟩
/-- data for a while: what was frozen is own again, what was made of it is forgotten -/
theorem Gr.thaw {M : List Addr} {G H G2 H2 : Hp} {p : Addr} {o : HO} (x : Gr M (upd G p o) H G2 H2) (hn : G p = none) : Gr M G H G H2 :=
  ⟨Sb.refl G, ((Sb.new hn).trans x.g).trans x.s, x.h, x.t, fun _ _ _ e => e⟩
/-- what was made within is forgotten from M -/
theorem Gr.drop {M : List Addr} {p : Addr} {G H G' H' : Hp} (x : Gr (p :: M) G H G' H') (h : H p = none) : Gr M G H G' H' :=
  ⟨x.g, x.s, fun a o m e => x.h a o (fun z => by
    rcases List.mem_cons.mp z with z | z
    · subst z; rw [h] at e; cases e
    · exact m z) e, x.t, x.n⟩
theorem Gr.ne {M : List Addr} {G H G' H' : Hp} (x : Gr M G H G' H') {p : Addr} {o : HO} (h : H p = some o) (hn : G p = none) : G' p = none := x.n p o h hn

/-! ### what evaluates to what -/
def EvP (te : TE) (σ : L2.St) (G H : Hp) (P : PyData → Prop) : Prop := ∀ G1 H1, Gr [] G H G1 H1 → ∀ Q : VK, (∀ v d G2 H2, Gr [] G1 H1 G2 H2 → P d → Dx G2 v d → Q v H2) → te σ H1 Q
def EvD (te : TE) (σ : L2.St) (G H : Hp) (d : PyData) : Prop := ∀ G1 H1, Gr [] G H G1 H1 → ∀ Q : VK, (∀ v G2 H2, Gr [] G1 H1 G2 H2 → Dx G2 v d → Q v H2) → te σ H1 Q
/-- a new list of its own -/
def EvM (te : TE) (σ : L2.St) (G H : Hp) (ds : List PyData) : Prop := ∀ G1 H1, Gr [] G H G1 H1 → ∀ Q : VK, (∀ p xs G2 H2, Gr [] G1 H1 G2 H2 → H1 p = none → G2 p = none → H2 p = some (.lst xs) → Dxs G2 xs ds → Q (.ref p) H2) → te σ H1 Q
def EvMP (te : TE) (σ : L2.St) (G H : Hp) (P : List PyData → Prop) : Prop := ∀ G1 H1, Gr [] G H G1 H1 → ∀ Q : VK, (∀ p xs ds G2 H2, Gr [] G1 H1 G2 H2 → H1 p = none → G2 p = none → H2 p = some (.lst xs) → P ds → Dxs G2 xs ds → Q (.ref p) H2) → te σ H1 Q
def EvT (tt : TT) (σ : L2.St) (G H : Hp) (b : Bool) : Prop := ∀ G1 H1, Gr [] G H G1 H1 → ∀ Q : Bool → Hp → Prop, (∀ G2 H2, Gr [] G1 H1 G2 H2 → Q b H2) → tt σ H1 Q
def EvA (ta : TA) (σ : L2.St) (G H : Hp) (ds : List PyData) : Prop := ∀ G1 H1, Gr [] G H G1 H1 → ∀ Q : List V → Hp → Prop, (∀ vs G2 H2, Gr [] G1 H1 G2 H2 → Dxs G2 vs ds → Q vs H2) → ta σ H1 Q
def EvO (to : TO) (σ : L2.St) (G H : Hp) (o : Option Int) : Prop := ∀ G1 H1, Gr [] G H G1 H1 → ∀ Q : Option Int → Hp → Prop, (∀ G2 H2, Gr [] G1 H1 G2 H2 → Q o H2) → to σ H1 Q
/-- the same of operations on values -/
def RD (r : R2) (d1 d2 d : PyData) : Prop := ∀ G1 H1 x y, Sb G1 H1 → Dx G1 x d1 → Dx G1 y d2 → ∀ Q : VK, (∀ v G2 H2, Gr [] G1 H1 G2 H2 → Dx G2 v d → Q v H2) → r x y H1 Q
def RM (r : R2) (d1 d2 : PyData) (ds : List PyData) : Prop := ∀ G1 H1 x y, Sb G1 H1 → Dx G1 x d1 → Dx G1 y d2 → ∀ Q : VK, (∀ p xs G2 H2, Gr [] G1 H1 G2 H2 → H1 p = none → G2 p = none → H2 p = some (.lst xs) → Dxs G2 xs ds → Q (.ref p) H2) → r x y H1 Q
def CD (r : List V → Hp → VK → Prop) (ds : List PyData) (d : PyData) : Prop := ∀ G1 H1 vs, Sb G1 H1 → Dxs G1 vs ds → ∀ Q : VK, (∀ v G2 H2, Gr [] G1 H1 G2 H2 → Dx G2 v d → Q v H2) → r vs H1 Q
def CM (r : List V → Hp → VK → Prop) (ds : List PyData) (es : List PyData) : Prop := ∀ G1 H1 vs, Sb G1 H1 → Dxs G1 vs ds → ∀ Q : VK, (∀ p xs G2 H2, Gr [] G1 H1 G2 H2 → H1 p = none → G2 p = none → H2 p = some (.lst xs) → Dxs G2 xs es → Q (.ref p) H2) → r vs H1 Q
section
variable {K : PySem.W.Frag} {σ : L2.St} {G G' H H' : Hp} {ta tb tc te : TE} {tt tu : TT} {d d1 d2 d3 : PyData} {ds es : List PyData} {r r' : R2} {b c : Bool}
theorem EvD.p {P : PyData → Prop} (h : EvD te σ G H d) (p : P d) : EvP te σ G H P := fun G1 H1 a Q q => h G1 H1 a Q fun v G2 H2 g x => q v d G2 H2 g p x
theorem EvD.mono (h : EvD te σ G H d) (s : Gr [] G H G' H') : EvD te σ G' H' d := fun G1 H1 a Q q => h G1 H1 (s.trans a) Q q
theorem EvM.mono (h : EvM te σ G H ds) (s : Gr [] G H G' H') : EvM te σ G' H' ds := fun G1 H1 a Q q => h G1 H1 (s.trans a) Q q
theorem EvT.mono (h : EvT tt σ G H b) (s : Gr [] G H G' H') : EvT tt σ G' H' b := fun G1 H1 a Q q => h G1 H1 (s.trans a) Q q
theorem EvM.dat (h : EvM te σ G H ds) : EvD te σ G H (.list ds) := fun G1 H1 a Q q => h G1 H1 a Q fun p xs G2 H2 g h0 hn h2 x =>
  q (.ref p) _ H2 (g.freeze h2 hn h0) (.lst upd_same (x.mono (Sb.new hn)))
theorem ev_is (h : EvD te σ G H d) (e : d = d1) : EvD te σ G H d1 := e ▸ h
theorem evt_is (h : EvT tt σ G H b) (e : b = c) : EvT tt σ G H c := e ▸ h
theorem evm_is (h : EvM te σ G H ds) (e : ds = es) : EvM te σ G H es := e ▸ h
theorem ev_var {i : Nat} {v : V} (h : σ[i]? = some (some v)) (x : Dx G v d) : EvD (tVar i) σ G H d := fun G1 _ a _ q => ⟨v, h, q v G1 _ (.refl a.s) (x.mono a.g)⟩
theorem ev_int {i : Int} : EvD (tC (.int i)) σ G H (.int i) := fun G1 _ a _ q => q _ G1 _ (.refl a.s) (.int i)
theorem ev_bl {x : Bool} : EvD (tC (.bl x)) σ G H (.bool x) := fun G1 _ a _ q => q _ G1 _ (.refl a.s) (.bl x)
theorem ev_str {x : Str} : EvD (tC (.str x)) σ G H (.str x) := fun G1 _ a _ q => q _ G1 _ (.refl a.s) (.str x)
theorem ev_non : EvD (tC .non) σ G H .none := fun G1 _ a _ q => q _ G1 _ (.refl a.s) .non
theorem ev_op (ha : EvD ta σ G H d1) (hb : EvD tb σ G H d2) (hr : RD r d1 d2 d) : EvD (tOp r ta tb) σ G H d := fun G1 H1 a Q q =>
  ha G1 H1 a _ fun v G2 H2 g x => hb G2 H2 (a.trans g) _ fun u G3 H3 g3 y => hr G3 H3 v u g3.s (x.mono g3.g) y Q fun w G4 H4 g4 z => q w G4 H4 (g.trans (g3.trans g4)) z
theorem ev_opM (ha : EvD ta σ G H d1) (hb : EvD tb σ G H d2) (hr : RM r d1 d2 ds) : EvM (tOp r ta tb) σ G H ds := fun G1 H1 a Q q =>
  ha G1 H1 a _ fun v G2 H2 g x => hb G2 H2 (a.trans g) _ fun u G3 H3 g3 y => hr G3 H3 v u g3.s (x.mono g3.g) y Q fun p xs G4 H4 g4 h0 hn h4 z =>
    q p xs G4 H4 (g.trans (g3.trans g4)) ((g.trans g3).free h0) hn h4 z
theorem ev_chain {b1 b2 : Bool} (ha : EvD ta σ G H d1) (hb : EvD tb σ G H d2) (hr : RD r d1 d2 (.bool b1)) (hc : b1 = true → EvD tc σ G H d3) (hr' : b1 = true → RD r' d2 d3 (.bool b2)) : EvD (tChain r r' ta tb tc) σ G H (.bool (b1 && b2)) := fun G1 H1 a Q q =>
  ha G1 H1 a _ fun v G2 H2 g x => hb G2 H2 (a.trans g) _ fun u G3 H3 g3 y => hr G3 H3 v u g3.s (x.mono g3.g) y _ fun w G4 H4 g4 z => by
    refine ⟨b1, z.bl_eq, ?_⟩
    cases b1 with
    | true =>
      refine iteT (hc rfl G4 H4 (a.trans (g.trans (g3.trans g4))) _ fun t G5 H5 g5 zz => ?_)
      exact hr' rfl G5 H5 u t g5.s (y.mono (g4.g.trans g5.g)) zz Q fun w G6 H6 g6 z6 => q w G6 H6 (g.trans (g3.trans (g4.trans (g5.trans g6)))) z6
    | false => exact iteF (q _ G4 H4 (g.trans (g3.trans g4)) (.bl false))
theorem ev_un {f : V → Hp → VK → Prop} (ha : EvD ta σ G H d1) (hr : ∀ G1 H1 x, Sb G1 H1 → Dx G1 x d1 → ∀ Q : VK, (∀ v G2 H2, Gr [] G1 H1 G2 H2 → Dx G2 v d → Q v H2) → f x H1 Q) : EvD (tUn f ta) σ G H d := fun G1 H1 a Q q =>
  ha G1 H1 a _ fun v G2 H2 g x => hr G2 H2 v g.s x Q fun w G4 H4 g4 z => q w G4 H4 (g.trans g4) z
theorem ev_neg {i : Int} (ha : EvD ta σ G H (.int i)) : EvD (tUn (rU fun i => .int (-i)) ta) σ G H (.int (-i)) := ev_un ha fun G1 _ _ s x _ q => ⟨i, x.int_eq, q _ G1 _ (.refl s) (.int _)⟩
theorem ev_if (h : EvT tt σ G H b) (h1 : b = true → EvD ta σ G H d) (h2 : b = false → EvD tb σ G H d) : EvD (tIf tt ta tb) σ G H d := fun G1 H1 a Q q => h G1 H1 a _ fun G2 H2 g => by
  cases b with
  | true => exact iteT (h1 rfl G2 H2 (a.trans g) Q fun v G3 H3 g3 x => q v G3 H3 (g.trans g3) x)
  | false => exact iteF (h2 rfl G2 H2 (a.trans g) Q fun v G3 H3 g3 x => q v G3 H3 (g.trans g3) x)
/-! tests -/
theorem et_test (h : EvD te σ G H (.bool b)) : EvT (tTest te) σ G H b := fun G1 H1 a Q q => h G1 H1 a _ fun v G2 H2 g x => ⟨b, x.bl_eq, q G2 H2 g⟩
theorem et_B (h : EvD te σ G H (.bool b)) : EvT (tB te) σ G H b := fun G1 H1 a Q q => h G1 H1 a _ fun v G2 H2 g x => ⟨b, x.bl_eq, q G2 H2 g⟩
theorem et_and (h : EvT tt σ G H b) (h1 : b = true → EvT tu σ G H c) : EvT (tAnd tt tu) σ G H (b && c) := fun G1 H1 a Q q => h G1 H1 a _ fun G2 H2 g => by
  cases b with
  | true => exact iteT (h1 rfl G2 H2 (a.trans g) Q fun G3 H3 g3 => q G3 H3 (g.trans g3))
  | false => exact iteF (q G2 H2 g)
theorem et_or (h : EvT tt σ G H b) (h1 : b = false → EvT tu σ G H c) : EvT (tOr tt tu) σ G H (b || c) := fun G1 H1 a Q q => h G1 H1 a _ fun G2 H2 g => by
  cases b with
  | false => exact iteF (h1 rfl G2 H2 (a.trans g) Q fun G3 H3 g3 => q G3 H3 (g.trans g3))
  | true => exact iteT (q G2 H2 g)
theorem et_not (h : EvT tt σ G H b) : EvT (tNot tt) σ G H (!b) := fun G1 H1 a _ q => h G1 H1 a _ fun G2 H2 g => q G2 H2 g
theorem et_yes : EvT tYes σ G H true := fun G1 H1 a _ q => q G1 H1 (.refl a.s)
theorem ev_andV (h : EvD ta σ G H (.bool b)) (h1 : b = true → EvD tb σ G H (.bool c)) : EvD (tAndV ta tb) σ G H (.bool (b && c)) := fun G1 H1 a Q q => h G1 H1 a _ fun v G2 H2 g x => ⟨b, x.bl_eq, by
  cases b with
  | true => exact iteT (h1 rfl G2 H2 (a.trans g) Q fun v G3 H3 g3 x => q v G3 H3 (g.trans g3) x)
  | false => exact iteF (q _ G2 H2 g (.bl false))⟩
theorem ev_orV (h : EvD ta σ G H (.bool b)) (h1 : b = false → EvD tb σ G H (.bool c)) : EvD (tOrV ta tb) σ G H (.bool (b || c)) := fun G1 H1 a Q q => h G1 H1 a _ fun v G2 H2 g x => ⟨b, x.bl_eq, by
  cases b with
  | false => exact iteF (h1 rfl G2 H2 (a.trans g) Q fun v G3 H3 g3 x => q v G3 H3 (g.trans g3) x)
  | true => exact iteT (q _ G2 H2 g (.bl true))⟩
theorem ev_notV (h : EvD ta σ G H (.bool b)) : EvD (tNotV ta) σ G H (.bool (!b)) := fun G1 H1 a _ q => h G1 H1 a _ fun v G2 H2 g x => ⟨b, x.bl_eq, q _ G2 H2 g (.bl _)⟩
def isNone : PyData → Bool
  | .none => true
  | _ => false
theorem ev_isN (h : EvD ta σ G H d) : EvD (tIsN ta) σ G H (.bool (isNone d)) := fun G1 H1 a _ q => h G1 H1 a _ fun v G2 H2 g x => by
  have e : decide (v = V.non) = isNone d := by cases x <;> rfl
  show _
  rw [e]; exact q _ G2 H2 g (.bl _)
theorem ev_notN (h : EvD ta σ G H d) : EvD (tNotN ta) σ G H (.bool (!isNone d)) := fun G1 H1 a _ q => h G1 H1 a _ fun v G2 H2 g x => by
  have e : decide (v = V.non) = isNone d := by cases x <;> rfl
  show _
  rw [e]; exact q _ G2 H2 g (.bl _)
/-! arguments -/
theorem ea_nil : EvA tNil σ G H [] := fun G1 H1 a _ q => q [] G1 H1 (.refl a.s) .nil
theorem ea_cons {tr : TA} (h : EvD te σ G H d) (hr : EvA tr σ G H ds) : EvA (tCons te tr) σ G H (d :: ds) := fun G1 H1 a _ q =>
  h G1 H1 a _ fun v G2 H2 g x => hr G2 H2 (a.trans g) _ fun vs G3 H3 g3 xs => q (v :: vs) G3 H3 (g.trans g3) (.cons (x.mono g3.g) xs)
theorem ea_is {t : TA} (h : EvA t σ G H ds) (e : ds = es) : EvA t σ G H es := e ▸ h
theorem ev_tup {t : TA} (h : EvA t σ G H ds) (hl : ds.length ≤ 100000) : EvD (tTup t) σ G H (.tuple ds) := fun G1 H1 a _ q =>
  h G1 H1 a _ fun vs G2 H2 g xs => ⟨Evl.sz_of (by rw [xs.len]; exact hl), fun p hp => q (.ref p) _ _ (g.data hp) (.tup upd_same (xs.mono (Sb.new (g.s.none hp))))⟩
theorem ev_lst {t : TA} (h : EvA t σ G H ds) (hl : ds.length ≤ 100000) : EvM (tLst t) σ G H ds := fun G1 H1 a _ q =>
  h G1 H1 a _ fun vs G2 H2 g xs => ⟨Evl.sz_of (by rw [xs.len]; exact hl), fun p hp => q p vs G2 _ (g.own hp) (g.free hp) (g.s.none hp) upd_same xs⟩
theorem ev_cb {f : List V → Hp → VK → Prop} {t : TA} (h : EvA t σ G H ds) (hr : CD f ds d) : EvD (tCB f t) σ G H d := fun G1 H1 a Q q =>
  h G1 H1 a _ fun vs G2 H2 g xs => hr G2 H2 vs g.s xs Q fun v G3 H3 g3 x => q v G3 H3 (g.trans g3) x
theorem ev_cbM {f : List V → Hp → VK → Prop} {t : TA} (h : EvA t σ G H ds) (hr : CM f ds es) : EvM (tCB f t) σ G H es := fun G1 H1 a Q q =>
  h G1 H1 a _ fun vs G2 H2 g xs => hr G2 H2 vs g.s xs Q fun p ys G3 H3 g3 h0 hn h3 x => q p ys G3 H3 (g.trans g3) (g.free h0) hn h3 x
theorem eo_none : EvO tNoPart σ G H none := fun G1 H1 a _ q => q G1 H1 (.refl a.s)
theorem eo_some {i : Int} (h : EvD te σ G H (.int i)) : EvO (tPart te) σ G H (some i) := fun G1 H1 a _ q => h G1 H1 a _ fun v G2 H2 g x => ⟨i, x.int_eq, q G2 H2 g⟩
/-- an own list read: len(xs), xs[i] -/
theorem ev_lenO {l : Addr} {xs : List V} {i : Nat} (h : σ[i]? = some (some (.ref l))) (hl : H l = some (.lst xs)) : EvD (tCB (fun xs H Q => ∃ p ys, xs = [.ref p] ∧ (SqL K H p ys ∨ SqT K H p ys) ∧ Q (.int ys.length) H) (tCons (tVar i) tNil)) σ G H (.int xs.length) := fun G1 H1 a Q q =>
  ⟨.ref l, h, l, xs, rfl, Or.inl (Or.inl (Or.inl (a.h l _ (by simp) hl))), q _ G1 H1 (.refl a.s) (.int _)⟩
theorem ev_ixO {l : Addr} {xs : List V} {i : Nat} {k : Int} (h : σ[i]? = some (some (.ref l))) (hl : H l = some (.lst xs)) (hx : Dxs G xs ds) (hk : EvD ta σ G H (.int k)) (e : atI ds k = some d) : EvD (tOp (rIxL K) (tVar i) ta) σ G H d := fun G1 H1 a Q q =>
  ⟨.ref l, h, hk G1 H1 a _ fun v G2 H2 g x => by
    have hl2 := (a.trans g).h l _ (by simp) hl
    have dxs := hx.mono (a.trans g).g
    obtain ⟨j, hj⟩ : ∃ j, ixN ds.length k = some j := by
      unfold atI at e
      cases q : ixN ds.length k with
      | none => rw [q] at e; cases e
      | some j => exact ⟨j, rfl⟩
    unfold atI at e
    rw [hj] at e
    obtain ⟨u, hu, du⟩ := dxs.get (i := j) e
    refine ⟨l, xs, k, u, rfl, x.int_eq, Or.inl (Or.inl hl2), ?_, q u G2 H2 g du⟩
    unfold atI
    rw [dxs.len, hj]
    exact hu⟩
theorem ev_sumO {l : Addr} {xs : List V} {ns : List Int} {i : Nat} (h : σ[i]? = some (some (.ref l))) (hl : H l = some (.lst xs)) (hx : Dxs G xs (ns.map .int)) : EvD (tCB (rSum K) (tCons (tVar i) tNil)) σ G H (.int ns.sum) := fun G1 H1 a Q q =>
  ⟨.ref l, h, l, ns, rfl, by rw [← hx.ints_eq]; exact Or.inl (Or.inl (a.h l _ (by simp) hl)), q _ G1 H1 (.refl a.s) (.int _)⟩
end

/-! ### operations -/
section
variable {K : PySem.W.Frag} {d e : PyData} {ds es : List PyData} {i j : Int}
theorem rd_I0 {g : Int → Int → V} {d : PyData} (h : ∀ G, Dx G (g i j) d) : RD (rI0 g) (.int i) (.int j) d := fun G1 _ _ _ s x y _ q => ⟨i, j, x.int_eq, y.int_eq, q _ G1 _ (.refl s) (h G1)⟩
theorem rd_I {C : Int → Int → Prop} {g : Int → Int → V} {d : PyData} (hc : C i j) (h : ∀ G, Dx G (g i j) d) : RD (rI C g) (.int i) (.int j) d := fun G1 _ _ _ s x y _ q => ⟨i, j, x.int_eq, y.int_eq, hc, q _ G1 _ (.refl s) (h G1)⟩
theorem rd_add : RD (rI0 fun i j => .int (i + j)) (.int i) (.int j) (.int (i + j)) := rd_I0 fun _ => .int _
theorem rd_sub : RD (rI0 fun i j => .int (i - j)) (.int i) (.int j) (.int (i - j)) := rd_I0 fun _ => .int _
theorem rd_mul (h : CMul i j) : RD (rI CMul fun i j => .int (i * j)) (.int i) (.int j) (.int (i * j)) := rd_I h fun _ => .int _
theorem rd_mod (h : 0 < j) : RD (rI (fun _ j => 0 < j) fun i j => .int (i % j)) (.int i) (.int j) (.int (i % j)) := rd_I (C := fun _ j => 0 < j) h fun _ => .int _
theorem rd_fdiv (h : CDiv i j) : RD (rI CDiv fun i j => .int (i / j)) (.int i) (.int j) (.int (i / j)) := rd_I h fun _ => .int _
theorem rd_pow (h : CPow i j) : RD (rI CPow fun i j => .int (i ^ j.toNat)) (.int i) (.int j) (.int (i ^ j.toNat)) := rd_I h fun _ => .int _
theorem rd_lt : RD (rI0 fun i j => .bl (decide (i < j))) (.int i) (.int j) (.bool (decide (i < j))) := rd_I0 fun _ => .bl _
theorem rd_le : RD (rI0 fun i j => .bl (decide (i ≤ j))) (.int i) (.int j) (.bool (decide (i ≤ j))) := rd_I0 fun _ => .bl _
theorem rd_gt : RD (rI0 fun i j => .bl (decide (j < i))) (.int i) (.int j) (.bool (decide (j < i))) := rd_I0 fun _ => .bl _
theorem rd_ge : RD (rI0 fun i j => .bl (decide (j ≤ i))) (.int i) (.int j) (.bool (decide (j ≤ i))) := rd_I0 fun _ => .bl _
theorem rd_eqI : RD rEq (.int i) (.int j) (.bool (decide (i = j))) := fun G1 _ x y s hx hy _ q => by
  rw [hx.int_eq, hy.int_eq]
  refine ⟨rfl, ?_⟩
  have e : decide (V.int i = V.int j) = decide (i = j) := decide_eq_decide.mpr ⟨fun h => V.int.inj h, fun h => congrArg _ h⟩
  rw [e]; exact q _ G1 _ (.refl s) (.bl _)
theorem rd_neI : RD rNe (.int i) (.int j) (.bool (!decide (i = j))) := fun G1 _ x y s hx hy _ q => by
  rw [hx.int_eq, hy.int_eq]
  refine ⟨rfl, ?_⟩
  have e : decide (V.int i = V.int j) = decide (i = j) := decide_eq_decide.mpr ⟨fun h => V.int.inj h, fun h => congrArg _ h⟩
  rw [e]; exact q _ G1 _ (.refl s) (.bl _)
theorem rd_eqS {y z : Str} : RD rEq (.str y) (.str z) (.bool (decide (y = z))) := fun G1 _ u v s hx hy _ q => by
  rw [hx.str_eq, hy.str_eq]
  refine ⟨rfl, ?_⟩
  have e : decide (V.str y = V.str z) = decide (y = z) := decide_eq_decide.mpr ⟨fun h => V.str.inj h, fun h => congrArg _ h⟩
  rw [e]; exact q _ G1 _ (.refl s) (.bl _)
theorem rd_neS {y z : Str} : RD rNe (.str y) (.str z) (.bool (!decide (y = z))) := fun G1 _ u v s hx hy _ q => by
  rw [hx.str_eq, hy.str_eq]
  refine ⟨rfl, ?_⟩
  have e : decide (V.str y = V.str z) = decide (y = z) := decide_eq_decide.mpr ⟨fun h => V.str.inj h, fun h => congrArg _ h⟩
  rw [e]; exact q _ G1 _ (.refl s) (.bl _)
theorem rd_eqB {y z : Bool} : RD rEq (.bool y) (.bool z) (.bool (decide (y = z))) := fun G1 _ u v s hx hy _ q => by
  rw [hx.bl_eq, hy.bl_eq]
  refine ⟨rfl, ?_⟩
  have e : decide (V.bl y = V.bl z) = decide (y = z) := decide_eq_decide.mpr ⟨fun h => V.bl.inj h, fun h => congrArg _ h⟩
  rw [e]; exact q _ G1 _ (.refl s) (.bl _)
theorem rd_neB {y z : Bool} : RD rNe (.bool y) (.bool z) (.bool (!decide (y = z))) := fun G1 _ u v s hx hy _ q => by
  rw [hx.bl_eq, hy.bl_eq]
  refine ⟨rfl, ?_⟩
  have e : decide (V.bl y = V.bl z) = decide (y = z) := decide_eq_decide.mpr ⟨fun h => V.bl.inj h, fun h => congrArg _ h⟩
  rw [e]; exact q _ G1 _ (.refl s) (.bl _)
theorem rd_eqD (h1 : SeqAt.shaped d = true) (h2 : SeqAt.shaped e = true) : RD (rEqD K) d e (.bool (PyData.eqv d e)) := fun G1 _ _ _ s x y _ q =>
  ⟨d, e, (x.mono s).dp, (y.mono s).dp, h1, h2, q _ G1 _ (.refl s) (.bl _)⟩
theorem rd_neD (h1 : SeqAt.shaped d = true) (h2 : SeqAt.shaped e = true) : RD (rNeD K) d e (.bool (!PyData.eqv d e)) := fun G1 _ _ _ s x y _ q =>
  ⟨d, e, (x.mono s).dp, (y.mono s).dp, h1, h2, q _ G1 _ (.refl s) (.bl _)⟩
theorem atI_dx {G : Hp} {xs : List V} (h : Dxs G xs ds) (e : atI ds i = some d) : ∃ v, atI xs i = some v ∧ Dx G v d := by
  unfold atI at e ⊢
  rw [h.len]
  cases q : ixN ds.length i with
  | none => rw [q] at e; cases e
  | some j => rw [q] at e; exact h.get e
theorem rd_ixL (h : atI ds i = some d) : RD (rIxL K) (.list ds) (.int i) d := fun G1 H1 x y s hx hy Q q => by
  obtain ⟨a, xs, rfl, hl, ha⟩ := hx.lst_eq
  obtain ⟨v, hv, dv⟩ := atI_dx ha h
  exact ⟨a, xs, i, v, rfl, hy.int_eq, Or.inl (Or.inl (s _ _ hl)), hv, q v G1 H1 (.refl s) dv⟩
theorem rd_ixT (h : atI ds i = some d) : RD (rIxT K) (.tuple ds) (.int i) d := fun G1 H1 x y s hx hy Q q => by
  obtain ⟨a, xs, rfl, hl, ha⟩ := hx.tup_eq
  obtain ⟨v, hv, dv⟩ := atI_dx ha h
  exact ⟨a, xs, i, v, rfl, hy.int_eq, Or.inl (Or.inl (s _ _ hl)), hv, q v G1 H1 (.refl s) dv⟩
theorem rd_ixS {z : Str} {c : Nat} (hl : z.length ≤ 100000) (h : atI z.cps.toList i = some c) : RD rIxS (.str z) (.int i) (.str ⟨#[c]⟩) := fun G1 H1 x y s hx hy Q q =>
  ⟨z, i, c, hx.str_eq, hy.int_eq, Evl.sz_of hl, h, q _ G1 H1 (.refl s) (.str _)⟩
theorem rd_cat (hl : ds.length + es.length ≤ 100000) : RM rCat (.list ds) (.list es) (ds ++ es) := fun G1 H1 x y s hx hy Q q => by
  obtain ⟨a, xs, rfl, ha, dxs⟩ := hx.lst_eq
  obtain ⟨b, ys, rfl, hb, dys⟩ := hy.lst_eq
  exact ⟨a, b, xs, ys, rfl, rfl, s _ _ ha, s _ _ hb, Evl.sz_of (by rw [dxs.len, dys.len]; exact hl), fun p hp => q p _ G1 _ ((Gr.refl s).own hp) hp (s.none hp) upd_same (dxs.app dys)⟩
theorem dxs_rep {G : Hp} {xs : List V} (h : Dxs G xs ds) : ∀ n : Nat, Dxs G (List.replicate n xs).flatten (List.replicate n ds).flatten
  | 0 => .nil
  | n + 1 => by rw [List.replicate_succ, List.replicate_succ, List.flatten_cons, List.flatten_cons]; exact h.app (dxs_rep h n)
theorem rd_rep (h1 : -(2 ^ 63) ≤ i) (h2 : i < 2 ^ 63) (hl : ds.length * i.toNat ≤ 100000) : RM rRep (.list ds) (.int i) (List.replicate i.toNat ds).flatten := fun G1 H1 x y s hx hy Q q => by
  obtain ⟨a, xs, rfl, ha, dxs⟩ := hx.lst_eq
  exact ⟨a, i, xs, rfl, hy.int_eq, s _ _ ha, h1, h2, Evl.sz_of (by rw [dxs.len]; exact hl), fun p hp => q p _ G1 _ ((Gr.refl s).own hp) hp (s.none hp) upd_same (dxs_rep dxs _)⟩
theorem rd_addS {y z : Str} (h : y.length + z.length ≤ 100000) : RD (fun x y H Q => ∃ i j, x = .str i ∧ y = .str j ∧ i.length + j.length ≤ sizeLine ∧ Q (.str (i ++ j)) H) (.str y) (.str z) (.str (y ++ z)) := fun G1 _ _ _ s hx hy _ q =>
  ⟨y, z, hx.str_eq, hy.str_eq, Evl.sz_of h, q _ G1 _ (.refl s) (.str _)⟩
def cutD (xs : List PyData) (lo hi : Option Int) : List PyData := (xs.drop (HT.sIx xs.length 0 lo)).take (HT.sIx xs.length xs.length hi - HT.sIx xs.length 0 lo)
theorem ev_sl {σ : L2.St} {G H : Hp} {te : TE} {tl th : TO} {lo hi : Option Int} (h : EvD te σ G H (.list ds)) (h1 : EvO tl σ G H lo) (h2 : EvO th σ G H hi) : EvM (tSl (rSlL K) te tl th) σ G H (cutD ds lo hi) := fun G1 H1 a Q q =>
  h G1 H1 a _ fun v G2 H2 g x => h1 G2 H2 (a.trans g) _ fun G3 H3 g3 => h2 G3 H3 (a.trans (g.trans g3)) _ fun G4 H4 g4 => by
    obtain ⟨p, xs, rfl, hp, dxs⟩ := (x.mono (g3.g.trans g4.g)).lst_eq
    have gg := g.trans (g3.trans g4)
    refine ⟨p, xs, rfl, Or.inl (Or.inl (gg.s _ _ hp)), fun l hl => q l _ G4 _ (gg.own hl) (gg.free hl) (gg.s.none hl) upd_same ?_⟩
    unfold cutV cutD
    rw [dxs.len]
    exact (dxs.drop _).take _
theorem ev_slS {σ : L2.St} {G H : Hp} {te : TE} {tl th : TO} {lo hi : Option Int} {z : Str} (h : EvD te σ G H (.str z)) (h1 : EvO tl σ G H lo) (h2 : EvO th σ G H hi) (hz : z.length ≤ 100000) : EvD (tSl rSlS te tl th) σ G H (.str (cutS z lo hi)) := fun G1 H1 a Q q =>
  h G1 H1 a _ fun v G2 H2 g x => h1 G2 H2 (a.trans g) _ fun G3 H3 g3 => h2 G3 H3 (a.trans (g.trans g3)) _ fun G4 H4 g4 =>
    ⟨z, x.str_eq, Evl.sz_of hz, q _ G4 H4 (g.trans (g3.trans g4)) (.str _)⟩
/-! builtin calls -/
theorem cd_lenL : CD (fun xs H Q => ∃ p ys, xs = [.ref p] ∧ (SqL K H p ys ∨ SqT K H p ys) ∧ Q (.int ys.length) H) [.list ds] (.int ds.length) := fun G1 H1 vs s h Q q => by
  cases h with | cons h t => cases t with | nil =>
    obtain ⟨a, xs, rfl, ha, dxs⟩ := h.lst_eq
    refine ⟨a, xs, rfl, Or.inl (Or.inl (Or.inl (s _ _ ha))), ?_⟩
    rw [dxs.len]; exact q _ G1 H1 (.refl s) (.int _)
theorem cd_lenT : CD (fun xs H Q => ∃ p ys, xs = [.ref p] ∧ (SqL K H p ys ∨ SqT K H p ys) ∧ Q (.int ys.length) H) [.tuple ds] (.int ds.length) := fun G1 H1 vs s h Q q => by
  cases h with | cons h t => cases t with | nil =>
    obtain ⟨a, xs, rfl, ha, dxs⟩ := h.tup_eq
    refine ⟨a, xs, rfl, Or.inr (Or.inl (Or.inl (s _ _ ha))), ?_⟩
    rw [dxs.len]; exact q _ G1 H1 (.refl s) (.int _)
theorem cd_lenS {z : Str} (hz : z.length ≤ 100000) : CD (fun xs H Q => ∃ z, xs = [.str z] ∧ z.length ≤ sizeLine ∧ Q (.int z.length) H) [.str z] (.int z.length) := fun G1 H1 vs s h Q q => by
  cases h with | cons h t => cases t with | nil =>
    exact ⟨z, by rw [h.str_eq], Evl.sz_of hz, q _ G1 H1 (.refl s) (.int _)⟩
theorem cd_abs : CD (fun xs H Q => ∃ i, xs = [.int i] ∧ Q (.int (if i < 0 then -i else i)) H) [.int i] (.int (if i < 0 then -i else i)) := fun G1 H1 vs s h Q q => by
  cases h with | cons h t => cases t with | nil => exact ⟨i, by rw [h.int_eq], q _ G1 H1 (.refl s) (.int _)⟩
theorem cd_intB {b : Bool} : CD (fun xs H Q => (∃ i, xs = [.int i] ∧ Q (.int i) H) ∨ ∃ k, xs = [.bl k] ∧ Q (.int (if k then 1 else 0)) H) [.bool b] (.int (if b then 1 else 0)) := fun G1 H1 vs s h Q q => by
  cases h with | cons h t => cases t with | nil => exact Or.inr ⟨b, by rw [h.bl_eq], q _ G1 H1 (.refl s) (.int _)⟩
theorem cd_max2 : CD (fun xs H Q => ∃ i j, xs = [.int i, .int j] ∧ Q (.int (if j > i then j else i)) H) [.int i, .int j] (.int (if j > i then j else i)) := fun G1 H1 vs s h Q q => by
  cases h with | cons h t => cases t with | cons h2 t => cases t with | nil => exact ⟨i, j, by rw [h.int_eq, h2.int_eq], q _ G1 H1 (.refl s) (.int _)⟩
theorem cd_sum {ns : List Int} : CD (rSum K) [.list (ns.map .int)] (.int ns.sum) := fun G1 H1 vs s h Q q => by
  cases h with | cons h t => cases t with | nil =>
    obtain ⟨a, xs, rfl, ha, dxs⟩ := h.lst_eq
    rw [dxs.ints_eq] at ha
    exact ⟨a, ns, rfl, Or.inl (Or.inl (s _ _ ha)), q _ G1 H1 (.refl s) (.int _)⟩
theorem cd_all {bs : List Bool} : CD (rAll K) [.list (bs.map .bool)] (.bool (bs.all id)) := fun G1 H1 vs s h Q q => by
  cases h with | cons h t => cases t with | nil =>
    obtain ⟨a, xs, rfl, ha, dxs⟩ := h.lst_eq
    rw [dxs.bls_eq] at ha
    exact ⟨a, bs, rfl, Or.inl (Or.inl (s _ _ ha)), q _ G1 H1 (.refl s) (.bl _)⟩
theorem cd_listL : CM (fun xs H Q => ∃ p ys, xs = [.ref p] ∧ (SqL K H p ys ∨ SqT K H p ys) ∧ ∀ l, H l = none → Q (.ref l) (upd H l (.lst ys))) [.list ds] ds := fun G1 H1 vs s h Q q => by
  cases h with | cons h t => cases t with | nil =>
    obtain ⟨a, xs, rfl, ha, dxs⟩ := h.lst_eq
    exact ⟨a, xs, rfl, Or.inl (Or.inl (Or.inl (s _ _ ha))), fun l hl => q l xs G1 _ ((Gr.refl s).own hl) hl (s.none hl) upd_same dxs⟩
theorem cd_listT : CM (fun xs H Q => ∃ p ys, xs = [.ref p] ∧ (SqL K H p ys ∨ SqT K H p ys) ∧ ∀ l, H l = none → Q (.ref l) (upd H l (.lst ys))) [.tuple ds] ds := fun G1 H1 vs s h Q q => by
  cases h with | cons h t => cases t with | nil =>
    obtain ⟨a, xs, rfl, ha, dxs⟩ := h.tup_eq
    exact ⟨a, xs, rfl, Or.inr (Or.inl (Or.inl (s _ _ ha))), fun l hl => q l xs G1 _ ((Gr.refl s).own hl) hl (s.none hl) upd_same dxs⟩
end

/-! ### the promises of defs -/
/-- a value made of the arguments' data; nothing that stood changes -/
def SpD {α : Type} (args : α → List PyData) (pre : α → Prop) (f : α → PyData) : Sp := fun vs H Q _ => ∃ G x, Sb G H ∧ Dxs G vs (args x) ∧ pre x ∧ ∀ v G' H', Gr [] G H G' H' → Dx G' v (f x) → Q v H'
/-- the same, a new list of its own -/
def SpM {α : Type} (args : α → List PyData) (pre : α → Prop) (f : α → List PyData) : Sp := fun vs H Q _ => ∃ G x, Sb G H ∧ Dxs G vs (args x) ∧ pre x ∧ ∀ p xs G' H', Gr [] G H G' H' → H p = none → G' p = none → H' p = some (.lst xs) → Dxs G' xs (f x) → Q (.ref p) H'
section
variable {σ : L2.St} {G H : Hp} {ds : List PyData} {E : XK} {t : TA} {α : Type} {args : α → List PyData} {pre : α → Prop} {f : α → PyData} {fl : α → List PyData}
theorem ev_call (x : α) (h : EvA t σ G H (args x)) (hp : pre x) : EvD (tCall (SpD args pre f) [] E t) σ G H (f x) := fun G1 H1 a Q q =>
  h G1 H1 a _ fun vs G2 H2 g xs => ⟨G2, x, g.s, by rw [List.append_nil]; exact xs, hp, fun v G3 H3 g3 z => q v G3 H3 (g.trans g3) z⟩
theorem ev_callM (x : α) (h : EvA t σ G H (args x)) (hp : pre x) : EvM (tCall (SpM args pre fl) [] E t) σ G H (fl x) := fun G1 H1 a Q q =>
  h G1 H1 a _ fun vs G2 H2 g xs => ⟨G2, x, g.s, by rw [List.append_nil]; exact xs, hp, fun p ys G3 H3 g3 h0 hn h3 z => q p ys G3 H3 (g.trans g3) (g.free h0) hn h3 z⟩
theorem ev_callE {d : PyData} (x : α) (h : EvA t σ G H (args x)) (hp : pre x) (e : f x = d) : EvD (tCall (SpD args pre f) [] E t) σ G H d := e ▸ ev_call x h hp
theorem ev_callME {es : List PyData} (x : α) (h : EvA t σ G H (args x)) (hp : pre x) (e : fl x = es) : EvM (tCall (SpM args pre fl) [] E t) σ G H es := e ▸ ev_callM x h hp
end
theorem dxs1 {G : Hp} {vs : List V} {a : PyData} (h : Dxs G vs [a]) : ∃ x, vs = [x] ∧ Dx G x a := by
  cases h with | cons h t => cases t with | nil => exact ⟨_, rfl, h⟩
theorem dxs2 {G : Hp} {vs : List V} {a b : PyData} (h : Dxs G vs [a, b]) : ∃ x y, vs = [x, y] ∧ Dx G x a ∧ Dx G y b := by
  cases h with | cons h t => obtain ⟨y, rfl, hy⟩ := dxs1 t; exact ⟨_, y, rfl, h, hy⟩
theorem dxs3 {G : Hp} {vs : List V} {a b c : PyData} (h : Dxs G vs [a, b, c]) : ∃ x y z, vs = [x, y, z] ∧ Dx G x a ∧ Dx G y b ∧ Dx G z c := by
  cases h with | cons h t => obtain ⟨y, z, rfl, hy, hz⟩ := dxs2 t; exact ⟨_, y, z, rfl, h, hy, hz⟩
theorem dxs4 {G : Hp} {vs : List V} {a b c d : PyData} (h : Dxs G vs [a, b, c, d]) : ∃ x y z w, vs = [x, y, z, w] ∧ Dx G x a ∧ Dx G y b ∧ Dx G z c ∧ Dx G w d := by
  cases h with | cons h t => obtain ⟨y, z, w, rfl, hy, hz, hw⟩ := dxs3 t; exact ⟨_, y, z, w, rfl, h, hy, hz, hw⟩
theorem dxs5 {G : Hp} {vs : List V} {a b c d e : PyData} (h : Dxs G vs [a, b, c, d, e]) : ∃ x y z w u, vs = [x, y, z, w, u] ∧ Dx G x a ∧ Dx G y b ∧ Dx G z c ∧ Dx G w d ∧ Dx G u e := by
  cases h with | cons h t => obtain ⟨y, z, w, u, rfl, hy, hz, hw, hu⟩ := dxs4 t; exact ⟨_, y, z, w, u, rfl, h, hy, hz, hw, hu⟩

/-! ### statements -/
section
variable {K : PySem.W.Frag} {σ : L2.St} {G H : Hp} {ta tb te : TE} {tt : TT} {d : PyData} {ds : List PyData} {b : Bool} {D : Ends} {tu tw tz : TS} {i : Nat}
theorem s_asg (h : EvD te σ G H d) (s : Sb G H) (k : ∀ v G1 H1, Gr [] G H G1 H1 → Dx G1 v d → D.nx (σ.set i (some v)) H1) : tAsg te (gName i) D σ H := h G H (.refl s) _ k
theorem s_asgP {P : PyData → Prop} (h : EvP te σ G H P) (s : Sb G H) (k : ∀ v d G1 H1, Gr [] G H G1 H1 → P d → Dx G1 v d → D.nx (σ.set i (some v)) H1) : tAsg te (gName i) D σ H := h G H (.refl s) _ k
theorem s_asgM (h : EvM te σ G H ds) (s : Sb G H) (k : ∀ p xs G1 H1, Gr [] G H G1 H1 → H p = none → G1 p = none → H1 p = some (.lst xs) → Dxs G1 xs ds → D.nx (σ.set i (some (.ref p))) H1) : tAsg te (gName i) D σ H := h G H (.refl s) _ k
theorem s_ret (h : EvD te σ G H d) (s : Sb G H) (k : ∀ v G1 H1, Gr [] G H G1 H1 → Dx G1 v d → D.rt v H1) : tRet te D σ H := h G H (.refl s) _ k
theorem s_retM (h : EvM te σ G H ds) (s : Sb G H) (k : ∀ p xs G1 H1, Gr [] G H G1 H1 → H p = none → G1 p = none → H1 p = some (.lst xs) → Dxs G1 xs ds → D.rt (.ref p) H1) : tRet te D σ H := h G H (.refl s) _ k
theorem s_if (h : EvT tt σ G H b) (s : Sb G H) (h1 : b = true → ∀ G1 H1, Gr [] G H G1 H1 → tu D σ H1) (h2 : b = false → ∀ G1 H1, Gr [] G H G1 H1 → tw D σ H1) : tIfS tt tu tw D σ H := h G H (.refl s) _ fun G1 H1 g => by
  cases b with
  | true => exact iteT (h1 rfl G1 H1 g)
  | false => exact iteF (h2 rfl G1 H1 g)
theorem s_drop (h : EvD te σ G H d) (s : Sb G H) (k : ∀ G1 H1, Gr [] G H G1 H1 → D.nx σ H1) : tDrop te D σ H := h G H (.refl s) _ fun _ G1 H1 g _ => k G1 H1 g
/-- xs.append(e), xs an own list -/
theorem s_app {l : Addr} {xs : List V} (hv : σ[i]? = some (some (.ref l))) (hl : H l = some (.lst xs)) (hn : G l = none) (h : EvD te σ G H d) (s : Sb G H) (hz : xs.length < 100000)
    (k : ∀ v G1 H1, Gr [] G H G1 H1 → Dx G1 v d → Gr [l] G H G1 (upd H1 l (.lst (xs ++ [v]))) → G1 l = none → D.nx σ (upd H1 l (.lst (xs ++ [v])))) :
    tDrop (tBM K "list" rAppend (tVar i) (tCons te tNil)) D σ H :=
  ⟨.ref l, hv, Or.inl ⟨rfl, xs, Or.inl (Or.inl hl)⟩, h G H (.refl s) _ fun v G1 H1 g x =>
    ⟨l, xs, v, rfl, rfl, g.h l _ (by simp) hl, Evl.sz_lt hz, k v G1 H1 g x (g.any.write (Or.inl (by simp)) (g.n l _ hl hn)) (g.n l _ hl hn)⟩⟩
/-! sequences -/
theorem q_asg (h : EvD te σ G H d) (s : Sb G H) (k : ∀ v G1 H1, Gr [] G H G1 H1 → Dx G1 v d → tz D (σ.set i (some v)) H1) : tSeq (tAsg te (gName i)) tz D σ H := s_asg (D := { D with nx := tz D }) h s k
theorem q_asgP {P : PyData → Prop} (h : EvP te σ G H P) (s : Sb G H) (k : ∀ v d G1 H1, Gr [] G H G1 H1 → P d → Dx G1 v d → tz D (σ.set i (some v)) H1) : tSeq (tAsg te (gName i)) tz D σ H := s_asgP (D := { D with nx := tz D }) h s k
theorem q_asgM (h : EvM te σ G H ds) (s : Sb G H) (k : ∀ p xs G1 H1, Gr [] G H G1 H1 → H p = none → G1 p = none → H1 p = some (.lst xs) → Dxs G1 xs ds → tz D (σ.set i (some (.ref p))) H1) : tSeq (tAsg te (gName i)) tz D σ H := s_asgM (D := { D with nx := tz D }) h s k
theorem q_if (h : EvT tt σ G H b) (s : Sb G H) (h1 : b = true → ∀ G1 H1, Gr [] G H G1 H1 → tu { D with nx := tz D } σ H1) (h2 : b = false → ∀ G1 H1, Gr [] G H G1 H1 → tw { D with nx := tz D } σ H1) : tSeq (tIfS tt tu tw) tz D σ H := s_if (D := { D with nx := tz D }) h s h1 h2
theorem q_when (h : EvT tt σ G H b) (s : Sb G H) (h1 : b = true → ∀ G1 H1, Gr [] G H G1 H1 → tu { D with nx := tz D } σ H1) (h2 : b = false → ∀ G1 H1, Gr [] G H G1 H1 → tz D σ H1) : tSeq (tIfS tt tu tNext) tz D σ H := s_if (D := { D with nx := tz D }) h s h1 h2
theorem q_drop (h : EvD te σ G H d) (s : Sb G H) (k : ∀ G1 H1, Gr [] G H G1 H1 → tz D σ H1) : tSeq (tDrop te) tz D σ H := s_drop (D := { D with nx := tz D }) h s k
theorem q_app {l : Addr} {xs : List V} (hv : σ[i]? = some (some (.ref l))) (hl : H l = some (.lst xs)) (hn : G l = none) (h : EvD te σ G H d) (s : Sb G H) (hz : xs.length < 100000)
    (k : ∀ v G1 H1, Gr [] G H G1 H1 → Dx G1 v d → Gr [l] G H G1 (upd H1 l (.lst (xs ++ [v]))) → G1 l = none → tz D σ (upd H1 l (.lst (xs ++ [v])))) :
    tSeq (tDrop (tBM K "list" rAppend (tVar i) (tCons te tNil))) tz D σ H := s_app (D := { D with nx := tz D }) hv hl hn h s hz k
/-! loops: I, a word of the turn, the slots, the data heap and the heap -/
def Nx (M : List Addr) (G H : Hp) (I : Nat → L2.St → Hp → Hp → Prop) (n : Nat) : L2.St → Hp → Prop := fun σ' H' => ∃ G', Gr M G H G' H' ∧ I n σ' G' H'
theorem s_forL {tl : TE} {g : TG} (M : List Addr) (I : Nat → L2.St → Hp → Hp → Prop) (h : EvD tl σ G H (.list ds)) (s : Sb G H) (h0 : ∀ G1 H1, Gr [] G H G1 H1 → I 0 σ G1 H1)
    (hs : ∀ G1 H1, Gr [] G H G1 H1 → ∀ n d v σ' G' H', ds[n]? = some d → Dx G' v d → Gr M G1 H1 G' H' → I n σ' G' H' → g v σ' H' fun σ2 H2 => tu { D with nx := Nx M G1 H1 I (n + 1), ct := Nx M G1 H1 I (n + 1), bk := D.nx } σ2 H2)
    (hd : ∀ σ' G' H', Gr M G H G' H' → I ds.length σ' G' H' → D.nx σ' H') : tFor (iList K tl) g tu D σ H :=
  h G H (.refl s) _ fun v G1 H1 g1 x => by
    obtain ⟨a, xs, rfl, ha, dxs⟩ := x.lst_eq
    refine ⟨a, rfl, ⟨xs, Or.inl (Or.inl (g1.s _ _ ha))⟩, for_list (xs := xs) (Nx M G1 H1 I) ⟨G1, .refl g1.s, h0 G1 H1 g1⟩ (fun n σ' H' _ p => ?_) (fun n x σ' H' hx p => ?_) (fun σ' H' p => ?_)⟩
    · obtain ⟨G', g', _⟩ := p
      exact Or.inl (Or.inl (g'.s _ _ (g'.g _ _ ha)))
    · obtain ⟨G', g', w⟩ := p
      obtain ⟨d, hd1, hd2⟩ := dxs.getV hx
      exact hs G1 H1 g1 n d x σ' G' H' hd1 (hd2.mono g'.g) g' w
    · obtain ⟨G', g', w⟩ := p
      rw [dxs.len] at w
      exact hd σ' G' H' (g1.any.trans g') w
theorem s_forT {tl : TE} {g : TG} (M : List Addr) (I : Nat → L2.St → Hp → Hp → Prop) (h : EvD tl σ G H (.tuple ds)) (s : Sb G H) (h0 : ∀ G1 H1, Gr [] G H G1 H1 → I 0 σ G1 H1)
    (hs : ∀ G1 H1, Gr [] G H G1 H1 → ∀ n d v σ' G' H', ds[n]? = some d → Dx G' v d → Gr M G1 H1 G' H' → I n σ' G' H' → g v σ' H' fun σ2 H2 => tu { D with nx := Nx M G1 H1 I (n + 1), ct := Nx M G1 H1 I (n + 1), bk := D.nx } σ2 H2)
    (hd : ∀ σ' G' H', Gr M G H G' H' → I ds.length σ' G' H' → D.nx σ' H') : tFor (iTup K tl) g tu D σ H :=
  h G H (.refl s) _ fun v G1 H1 g1 x => by
    obtain ⟨a, xs, rfl, ha, dxs⟩ := x.tup_eq
    refine ⟨a, rfl, ⟨xs, Or.inl (Or.inl (g1.s _ _ ha))⟩, for_tup (xs := xs) (Nx M G1 H1 I) ⟨G1, .refl g1.s, h0 G1 H1 g1⟩ (fun n σ' H' _ p => ?_) (fun n x σ' H' hx p => ?_) (fun σ' H' p => ?_)⟩
    · obtain ⟨G', g', _⟩ := p
      exact Or.inl (Or.inl (g'.s _ _ (g'.g _ _ ha)))
    · obtain ⟨G', g', w⟩ := p
      obtain ⟨d, hd1, hd2⟩ := dxs.getV hx
      exact hs G1 H1 g1 n d x σ' G' H' hd1 (hd2.mono g'.g) g' w
    · obtain ⟨G', g', w⟩ := p
      rw [dxs.len] at w
      exact hd σ' G' H' (g1.any.trans g') w
/-- for i in range(m) -/
theorem s_forR {t : TA} {j : Nat} {m : Int} (M : List Addr) (I : Nat → L2.St → Hp → Hp → Prop) (h : EvA t σ G H [.int m]) (hm : 0 ≤ m ∧ m ≤ 100000) (s : Sb G H) (h0 : ∀ G1 H1, Gr [] G H G1 H1 → I 0 σ G1 H1)
    (hs : ∀ G1 H1, Gr [] G H G1 H1 → ∀ (n : Nat) σ' G' H', (n : Int) < m → Gr M G1 H1 G' H' → I n σ' G' H' → tu { D with nx := Nx M G1 H1 I (n + 1), ct := Nx M G1 H1 I (n + 1), bk := D.nx } (σ'.set j (some (.int (n : Int)))) H')
    (hd : ∀ σ' G' H', Gr M G H G' H' → I m.toNat σ' G' H' → D.nx σ' H') : tFor (iRng1 t) (gName j) tu D σ H :=
  h G H (.refl s) _ fun vs G1 H1 g1 x => by
    obtain ⟨v, rfl, hv⟩ := dxs1 x
    refine ⟨m, by rw [hv.int_eq], by omega, by omega, for_range (lo := 0) (n := m.toNat) (Nx M G1 H1 I) ⟨G1, .refl g1.s, h0 G1 H1 g1⟩ (fun n σ' H' hn p => ?_) (fun σ' H' p => ?_)⟩
    · obtain ⟨G', g', w⟩ := p
      have e0 : (0 : Int) + (n : Int) = (n : Int) := Int.zero_add _
      show tu _ (σ'.set j (some (.int ((0 : Int) + (n : Int))))) H'
      rw [e0]
      exact hs G1 H1 g1 n σ' G' H' (by omega) g' w
    · obtain ⟨G', g', w⟩ := p
      exact hd σ' G' H' (g1.any.trans g') w
theorem q_forL {tl : TE} {g : TG} (M : List Addr) (I : Nat → L2.St → Hp → Hp → Prop) (h : EvD tl σ G H (.list ds)) (s : Sb G H) (h0 : ∀ G1 H1, Gr [] G H G1 H1 → I 0 σ G1 H1)
    (hs : ∀ G1 H1, Gr [] G H G1 H1 → ∀ n d v σ' G' H', ds[n]? = some d → Dx G' v d → Gr M G1 H1 G' H' → I n σ' G' H' → g v σ' H' fun σ2 H2 => tu { D with nx := Nx M G1 H1 I (n + 1), ct := Nx M G1 H1 I (n + 1), bk := tz D } σ2 H2)
    (hd : ∀ σ' G' H', Gr M G H G' H' → I ds.length σ' G' H' → tz D σ' H') : tSeq (tFor (iList K tl) g tu) tz D σ H := s_forL (D := { D with nx := tz D }) M I h s h0 hs hd
theorem q_forT {tl : TE} {g : TG} (M : List Addr) (I : Nat → L2.St → Hp → Hp → Prop) (h : EvD tl σ G H (.tuple ds)) (s : Sb G H) (h0 : ∀ G1 H1, Gr [] G H G1 H1 → I 0 σ G1 H1)
    (hs : ∀ G1 H1, Gr [] G H G1 H1 → ∀ n d v σ' G' H', ds[n]? = some d → Dx G' v d → Gr M G1 H1 G' H' → I n σ' G' H' → g v σ' H' fun σ2 H2 => tu { D with nx := Nx M G1 H1 I (n + 1), ct := Nx M G1 H1 I (n + 1), bk := tz D } σ2 H2)
    (hd : ∀ σ' G' H', Gr M G H G' H' → I ds.length σ' G' H' → tz D σ' H') : tSeq (tFor (iTup K tl) g tu) tz D σ H := s_forT (D := { D with nx := tz D }) M I h s h0 hs hd
theorem q_forR {t : TA} {j : Nat} {m : Int} (M : List Addr) (I : Nat → L2.St → Hp → Hp → Prop) (h : EvA t σ G H [.int m]) (hm : 0 ≤ m ∧ m ≤ 100000) (s : Sb G H) (h0 : ∀ G1 H1, Gr [] G H G1 H1 → I 0 σ G1 H1)
    (hs : ∀ G1 H1, Gr [] G H G1 H1 → ∀ (n : Nat) σ' G' H', (n : Int) < m → Gr M G1 H1 G' H' → I n σ' G' H' → tu { D with nx := Nx M G1 H1 I (n + 1), ct := Nx M G1 H1 I (n + 1), bk := tz D } (σ'.set j (some (.int (n : Int)))) H')
    (hd : ∀ σ' G' H', Gr M G H G' H' → I m.toNat σ' G' H' → tz D σ' H') : tSeq (tFor (iRng1 t) (gName j) tu) tz D σ H := s_forR (D := { D with nx := tz D }) M I h hm s h0 hs hd
end

/-! ### comprehensions -/
def given {β : Type} (n : Nat) (f : Nat → Bool) (v : Nat → β) : List β := ((List.range n).filter f).map v
theorem given_yes {β : Type} {n : Nat} {f : Nat → Bool} {v : Nat → β} (h : f n = true) : given (n + 1) f v = given n f v ++ [v n] := by
  unfold given
  rw [List.range_succ, List.filter_append, List.map_append, List.filter_cons, if_pos h] <;> rfl
theorem given_no {β : Type} {n : Nat} {f : Nat → Bool} {v : Nat → β} (h : f n = false) : given (n + 1) f v = given n f v := by
  unfold given
  rw [List.range_succ, List.filter_append, List.map_append, List.filter_cons, if_neg (by rw [h]; decide)]
  show _ ++ [] = _
  rw [List.append_nil]
theorem given_len {β : Type} (n : Nat) (f : Nat → Bool) (v : Nat → β) : (given n f v).length ≤ n := by
  unfold given
  rw [List.length_map]
  have h := List.length_filter_le f (List.range n)
  rw [List.length_range] at h
  exact h
section
variable {K : PySem.W.Frag} {σ : L2.St} {G H : Hp} {ta tb te : TE} {tt : TT} {d : PyData} {ds : List PyData}
/-- while the new list at l is being filled -/
def Cw (G H : Hp) (f : Nat → Bool) (v : Nat → PyData) (l : Addr) (i : Nat) (H' : Hp) : Prop := ∃ G' xs, Gr [] G H G' H' ∧ G' l = none ∧ H' l = some (.lst xs) ∧ Dxs G' xs (given i f v)
theorem cw_turn {H' : Hp} {f : Nat → Bool} {v : Nat → PyData} {l : Addr} {i : Nat} {σ2 : L2.St} (hl : H l = none) (p : Cw G H f v l i H') (hi : i < 50000)
    (ht : EvT tt σ2 G H (f i)) (he : f i = true → EvD te σ2 G H (v i)) :
    tt σ2 H' fun b H3 => if b = true then te σ2 H3 fun y H4 => ∃ acc, H4 l = some (.lst acc) ∧ acc.length < sizeLine ∧ Cw G H f v l (i + 1) (upd H4 l (.lst (acc ++ [y]))) else Cw G H f v l (i + 1) H3 := by
  obtain ⟨G', xs, g, hn', hx, dx⟩ := p
  refine ht G' H' g _ fun G3 H3 g3 => ?_
  cases hf : f i with
  | true =>
    refine iteT (he hf G3 H3 (g.trans g3) _ fun y G4 H4 g4 hy => ?_)
    have g34 := g3.trans g4
    refine ⟨xs, g34.h l _ (by simp) hx, Evl.sz_lt (by rw [dx.len]; have := given_len i f v; omega), G4, xs ++ [y], ?_, g34.n l _ hx hn', upd_same, ?_⟩
    · exact (g.trans g34).write (Or.inr hl) (g34.n l _ hx hn')
    · rw [given_yes hf]
      exact (dx.mono g34.g).app (Dxs.one hy)
  | false =>
    refine iteF ⟨G3, xs, g.trans g3, g3.n l _ hx hn', g3.h l _ (by simp) hx, ?_⟩
    rw [given_no hf]
    exact dx.mono g3.g
/-- [e for j in range(m) if t] -/
theorem ev_lcR {t : TA} {j : Nat} {vs : List Nat} {m : Int} (f : Nat → Bool) (v : Nat → PyData) (h : EvA t σ G H [.int m]) (hm : 0 ≤ m ∧ m ≤ 40000) (hw : ∀ x, wipe ((wipe σ vs).set j (some x)) vs = wipe σ vs)
    (ht : ∀ (i : Nat), (i : Int) < m → EvT tt ((wipe σ vs).set j (some (.int (i : Int)))) G H (f i)) (he : ∀ (i : Nat), (i : Int) < m → f i = true → EvD te ((wipe σ vs).set j (some (.int (i : Int)))) G H (v i)) :
    EvM (tLc (iRng1 t) (gName j) tt te vs) σ G H (given m.toNat f v) := fun G0 H0 a Q q => h G0 H0 a _ fun us G1 H1 g1 x => by
  obtain ⟨u, rfl, hu⟩ := dxs1 x
  have gg := a.trans g1
  refine ⟨m, by rw [hu.int_eq], by omega, by omega, fun l hl => lc_range (lo := 0) (n := m.toNat) (Cw G1 H1 f v l) ⟨G1, [], (Gr.refl g1.s).own hl, g1.s.none hl, upd_same, by exact .nil⟩ (fun i H' hi p => ?_) (fun H' p => ?_)⟩
  · have e0 : (0 : Int) + (i : Int) = (i : Int) := Int.zero_add _
    show wipe ((wipe σ vs).set j (some (.int ((0 : Int) + (i : Int))))) vs = wipe σ vs ∧ tt ((wipe σ vs).set j (some (.int ((0 : Int) + (i : Int))))) H' _
    rw [e0]
    exact ⟨hw _, cw_turn hl p (by omega) ((ht i (by omega)).mono gg) (fun hf => (he i (by omega) hf).mono gg)⟩
  · obtain ⟨G', xs, k1, k2, k3, k4⟩ := p
    exact q l xs G' H' (g1.trans k1) (g1.free hl) k2 k3 k4
/-- [e for x in xs if t], the target any -/
theorem ev_lcL {tl : TE} {g : TG} {vs : List Nat} (f : Nat → Bool) (v : Nat → PyData) (h : EvD tl σ G H (.list ds)) (hz : ds.length ≤ 40000)
    (ht : ∀ (i : Nat) (d : PyData) (x : V) G1 H1 H' (Q : L2.St → Hp → Prop), Gr [] G H G1 H1 → ds[i]? = some d → Dx G1 x d → Sb G1 H' → (∀ σ2, wipe σ2 vs = wipe σ vs → EvT tt σ2 G1 H1 (f i) → (f i = true → EvD te σ2 G1 H1 (v i)) → Q σ2 H') → g x (wipe σ vs) H' Q) :
    EvM (tLc (iList K tl) g tt te vs) σ G H (given ds.length f v) := fun G0 H0 a Q q => h G0 H0 a _ fun u G1 H1 g1 x => by
  obtain ⟨p, xs, rfl, hp, dxs⟩ := x.lst_eq
  refine ⟨p, rfl, ⟨xs, Or.inl (Or.inl (g1.s _ _ hp))⟩, fun l hl => lc_list (xs := xs) (Cw G1 H1 f v l) ⟨G1, [], (Gr.refl g1.s).own hl, g1.s.none hl, upd_same, by exact .nil⟩ (fun i H' _ w => ?_) (fun i x H' hx w => ?_) (fun H' w => ?_)⟩
  · obtain ⟨G', ys, gg, _, _⟩ := w
    exact Or.inl (Or.inl (gg.s _ _ (gg.g _ _ hp)))
  · obtain ⟨d, hd1, hd2⟩ := dxs.getV hx
    have hi : i < ds.length := (List.getElem?_eq_some_iff.mp hd1).1
    have w0 := w
    obtain ⟨G', ys, gg, _, _⟩ := w0
    refine ht i d x G1 H1 H' _ (a.trans g1) hd1 hd2 (gg.g.trans gg.s) fun σ2 hw h1 h2 => ⟨hw, ?_⟩
    exact cw_turn hl w (by omega) h1 h2
  · rw [dxs.len] at w
    obtain ⟨G', xs, k1, k2, k3, k4⟩ := w
    exact q l xs G' H' (g1.trans k1) (g1.free hl) k2 k3 k4
theorem ev_lcT {tl : TE} {g : TG} {vs : List Nat} (f : Nat → Bool) (v : Nat → PyData) (h : EvD tl σ G H (.tuple ds)) (hz : ds.length ≤ 40000)
    (ht : ∀ (i : Nat) (d : PyData) (x : V) G1 H1 H' (Q : L2.St → Hp → Prop), Gr [] G H G1 H1 → ds[i]? = some d → Dx G1 x d → Sb G1 H' → (∀ σ2, wipe σ2 vs = wipe σ vs → EvT tt σ2 G1 H1 (f i) → (f i = true → EvD te σ2 G1 H1 (v i)) → Q σ2 H') → g x (wipe σ vs) H' Q) :
    EvM (tLc (iTup K tl) g tt te vs) σ G H (given ds.length f v) := fun G0 H0 a Q q => h G0 H0 a _ fun u G1 H1 g1 x => by
  obtain ⟨p, xs, rfl, hp, dxs⟩ := x.tup_eq
  refine ⟨p, rfl, ⟨xs, Or.inl (Or.inl (g1.s _ _ hp))⟩, fun l hl => lc_tup (xs := xs) (Cw G1 H1 f v l) ⟨G1, [], (Gr.refl g1.s).own hl, g1.s.none hl, upd_same, by exact .nil⟩ (fun i H' _ w => ?_) (fun i x H' hx w => ?_) (fun H' w => ?_)⟩
  · obtain ⟨G', ys, gg, _, _⟩ := w
    exact Or.inl (Or.inl (gg.s _ _ (gg.g _ _ hp)))
  · obtain ⟨d, hd1, hd2⟩ := dxs.getV hx
    have hi : i < ds.length := (List.getElem?_eq_some_iff.mp hd1).1
    have w0 := w
    obtain ⟨G', ys, gg, _, _⟩ := w0
    refine ht i d x G1 H1 H' _ (a.trans g1) hd1 hd2 (gg.g.trans gg.s) fun σ2 hw h1 h2 => ⟨hw, ?_⟩
    exact cw_turn hl w (by omega) h1 h2
  · rw [dxs.len] at w
    obtain ⟨G', xs, k1, k2, k3, k4⟩ := w
    exact q l xs G' H' (g1.trans k1) (g1.free hl) k2 k3 k4
/-- .. the target a name -/
theorem ev_lcLn {tl : TE} {j : Nat} {vs : List Nat} (f : Nat → Bool) (v : Nat → PyData) (h : EvD tl σ G H (.list ds)) (hz : ds.length ≤ 40000) (hw : ∀ x, wipe ((wipe σ vs).set j (some x)) vs = wipe σ vs)
    (ht : ∀ (i : Nat) (d : PyData) (x : V) G1 H1, Gr [] G H G1 H1 → ds[i]? = some d → Dx G1 x d → EvT tt ((wipe σ vs).set j (some x)) G1 H1 (f i)) (he : ∀ (i : Nat) (d : PyData) (x : V) G1 H1, Gr [] G H G1 H1 → ds[i]? = some d → Dx G1 x d → f i = true → EvD te ((wipe σ vs).set j (some x)) G1 H1 (v i)) :
    EvM (tLc (iList K tl) (gName j) tt te vs) σ G H (given ds.length f v) := ev_lcL f v h hz fun i d x G1 H1 H' Q s hd hx _ q => q _ (hw x) (ht i d x G1 H1 s hd hx) (he i d x G1 H1 s hd hx)
theorem ev_lcTn {tl : TE} {j : Nat} {vs : List Nat} (f : Nat → Bool) (v : Nat → PyData) (h : EvD tl σ G H (.tuple ds)) (hz : ds.length ≤ 40000) (hw : ∀ x, wipe ((wipe σ vs).set j (some x)) vs = wipe σ vs)
    (ht : ∀ (i : Nat) (d : PyData) (x : V) G1 H1, Gr [] G H G1 H1 → ds[i]? = some d → Dx G1 x d → EvT tt ((wipe σ vs).set j (some x)) G1 H1 (f i)) (he : ∀ (i : Nat) (d : PyData) (x : V) G1 H1, Gr [] G H G1 H1 → ds[i]? = some d → Dx G1 x d → f i = true → EvD te ((wipe σ vs).set j (some x)) G1 H1 (v i)) :
    EvM (tLc (iTup K tl) (gName j) tt te vs) σ G H (given ds.length f v) := ev_lcT f v h hz fun i d x G1 H1 H' Q s hd hx _ q => q _ (hw x) (ht i d x G1 H1 s hd hx) (he i d x G1 H1 s hd hx)
end

/-! ### names of the built-ins -/
structure Bi (mg : Str → Option Value) : Prop where
  len : mg "len" = none
  range : mg "range" = none
  abs : mg "abs" = none
  int_ : mg "int" = none
  sum : mg "sum" = none
  isinstance : mg "isinstance" = none
  tuple : mg "tuple" = none
  list : mg "list" = none
  all : mg "all" = none
  bool : mg "bool" = none
  max : mg "max" = none
  enumerate : mg "enumerate" = none
  sorted : mg "sorted" = none
  str_ : mg "str" = none
/-! ### lists beside the data -/
theorem sq_gr {K : PySem.W.Frag} {M : List Addr} {G H G' H' : Hp} {a : Addr} {xs : List V} (g : Gr M G H G' H') (hm : a ∉ M) (h : SqL K H a xs) : SqL K H' a xs := by
  rcases h with (h | ⟨o, h⟩) | h
  · exact Or.inl (Or.inl (g.h a _ hm h))
  · exact Or.inl (Or.inr ⟨o, g.h a _ hm h⟩)
  · exact Or.inr h
theorem rd_fdivW {i j : Int} (h : CDivW i j) : RD (rI CDivW fun i j => .int (i / j)) (.int i) (.int j) (.int (i / j)) := rd_I h fun _ => .int _
theorem atI_int {ns : List Int} {i : Int} (h0 : 0 ≤ i) (h : i < ns.length) : atI (ns.map PyData.int) i = some (.int (ns.getD i.toNat 0)) := by
  obtain ⟨k, rfl⟩ : ∃ k : Nat, i = (k : Int) := ⟨i.toNat, by omega⟩
  have hk : k < ns.length := by omega
  refine atI_nat ?_
  rw [List.getElem?_map, List.getElem?_eq_getElem hk]
  show some (PyData.int ns[k]) = some (PyData.int (ns.getD k 0))
  rw [List.getD_eq_getElem?_getD, List.getElem?_eq_getElem hk]
  rfl

/-! ### one own list at l, seen from (B, C) where it was not yet written so -/
structure Ow (B C G H : Hp) (l : Addr) (xs : List V) : Prop where
  g : Gr [l] B C G H
  hl : H l = some (.lst xs)
  hn : G l = none
theorem Ow.s {B C G H : Hp} {l : Addr} {xs : List V} (o : Ow B C G H l xs) : Sb G H := o.g.s
theorem Ow.mk0 {B C G H : Hp} {l : Addr} {xs : List V} (g : Gr [] B C G H) (hl : H l = some (.lst xs)) (hn : G l = none) : Ow B C G H l xs := ⟨g.any, hl, hn⟩
theorem Ow.step {B C G H G' H' : Hp} {l : Addr} {xs : List V} (o : Ow B C G H l xs) (g : Gr [] G H G' H') : Ow B C G' H' l xs := ⟨o.g.trans g.any, g.h l _ (by simp) o.hl, g.n l _ o.hl o.hn⟩
theorem Ow.put {B C G H G' H' : Hp} {l : Addr} {xs : List V} (o : Ow B C G H l xs) (g : Gr [] G H G' H') (ys : List V) : Ow B C G' (upd H' l (.lst ys)) l ys :=
  ⟨(o.g.trans g.any).write (Or.inl (by simp)) (o.step g).hn, upd_same, (o.step g).hn⟩
/-- a list that is read stays while l is written -/
theorem Ow.sq {K : PySem.W.Frag} {B C G H : Hp} {l a : Addr} {xs ys : List V} (o : Ow B C G H l xs) (h0 : C l = none) (h : SqL K C a ys) : SqL K H a ys := sq_gr (o.g.drop h0) (by simp) h
theorem q_app' {K : PySem.W.Frag} {σ : L2.St} {B C G H : Hp} {te : TE} {d : PyData} {D : Ends} {tz : TS} {i : Nat} {l : Addr} {xs : List V} (o : Ow B C G H l xs) (hv : σ[i]? = some (some (.ref l))) (h : EvD te σ G H d) (hz : xs.length < 100000)
    (k : ∀ v G1 H1, Dx G1 v d → Gr [] G H G1 H1 → Ow B C G1 (upd H1 l (.lst (xs ++ [v]))) l (xs ++ [v]) → tz D σ (upd H1 l (.lst (xs ++ [v])))) :
    tSeq (tDrop (tBM K "list" rAppend (tVar i) (tCons te tNil))) tz D σ H := q_app hv o.hl o.hn h o.s hz fun v G1 H1 g x _ _ => k v G1 H1 x g (o.put g _)
theorem s_app' {K : PySem.W.Frag} {σ : L2.St} {B C G H : Hp} {te : TE} {d : PyData} {D : Ends} {i : Nat} {l : Addr} {xs : List V} (o : Ow B C G H l xs) (hv : σ[i]? = some (some (.ref l))) (h : EvD te σ G H d) (hz : xs.length < 100000)
    (k : ∀ v G1 H1, Dx G1 v d → Gr [] G H G1 H1 → Ow B C G1 (upd H1 l (.lst (xs ++ [v]))) l (xs ++ [v]) → D.nx σ (upd H1 l (.lst (xs ++ [v])))) :
    tDrop (tBM K "list" rAppend (tVar i) (tCons te tNil)) D σ H := s_app hv o.hl o.hn h o.s hz fun v G1 H1 g x _ _ => k v G1 H1 x g (o.put g _)

/-! ### isinstance -/
def tyN : PyData → String
  | .none => "NoneType"
  | .bool _ => "bool"
  | .int _ => "int"
  | .str _ => "str"
  | .list _ => "list"
  | .tuple _ => "tuple"
  | .dict _ => "dict"
theorem dx_ty {K : PySem.W.Frag} {G H : Hp} {v : V} {d : PyData} (s : Sb G H) (x : Dx G v d) : TyX K H v (.type (tyN d)) := by
  cases x with
  | non => exact .base .non
  | bl b => exact .base (.bl b)
  | int i => exact .base (.int i)
  | str z => exact .base (.str z)
  | lst h _ => exact .base (.lst (s _ _ h))
  | tup h _ => exact .base (.tup (s _ _ h))
section
variable {K : PySem.W.Frag} {σ : L2.St} {G H : Hp} {ta : TE} {d : PyData}
theorem ev_isi {T : String} {b : Bool} (h : EvD ta σ G H d) (hb : kitB (tyN d) T = some b) : EvD (tCB (rIsi K) (tCons ta (tCons (tC (.ty T)) tNil))) σ G H (.bool b) := fun G1 H1 a Q q =>
  h G1 H1 a _ fun v G2 H2 g x => ⟨v, .ty T, .type (tyN d), .type T, b, rfl, .ty T, dx_ty g.s x, kit_ty hb, q _ G2 H2 g (.bl _)⟩
theorem ev_isiT2 {T U : String} {b c : Bool} (h : EvD ta σ G H d) (hb : kitB (tyN d) T = some b) (hc : kitB (tyN d) U = some c) :
    EvD (tCB (rIsiT K) (tCons ta (tCons (tTup (tCons (tC (.ty T)) (tCons (tC (.ty U)) tNil))) tNil))) σ G H (.bool (b || c)) := fun G1 H1 a Q q =>
  h G1 H1 a _ fun v G2 H2 g x => ⟨by show 2 ≤ sizeLine; decide, fun p hp => ⟨v, p, [.ty T, .ty U], .type (tyN d), [.type T, .type U], b || c, rfl, upd_same, .cons (.ty T) (.cons (.ty U) .nil),
    dx_ty (Sb.new hp) (x.mono g.s), kitAny_cons (kit_ty hb) (fun e => kitAny_cons (kit_ty hc) (fun e2 => by rw [e, e2]; rfl) (fun e2 => by rw [e, e2]; rfl)) (fun e => by rw [e]; rfl),
    q _ G2 _ (g.own hp) (.bl _)⟩⟩
end
theorem kit_NoneType_bool : kitB "NoneType" "bool" = some false := by decide +kernel
theorem kit_NoneType_int : kitB "NoneType" "int" = some false := by decide +kernel
theorem kit_NoneType_str : kitB "NoneType" "str" = some false := by decide +kernel
theorem kit_NoneType_list : kitB "NoneType" "list" = some false := by decide +kernel
theorem kit_NoneType_tuple : kitB "NoneType" "tuple" = some false := by decide +kernel
theorem kit_bool_bool : kitB "bool" "bool" = some true := by decide +kernel
theorem kit_bool_int : kitB "bool" "int" = some true := by decide +kernel
theorem kit_bool_str : kitB "bool" "str" = some false := by decide +kernel
theorem kit_bool_list : kitB "bool" "list" = some false := by decide +kernel
theorem kit_bool_tuple : kitB "bool" "tuple" = some false := by decide +kernel
theorem kit_int_bool : kitB "int" "bool" = some false := by decide +kernel
theorem kit_int_int : kitB "int" "int" = some true := by decide +kernel
theorem kit_int_str : kitB "int" "str" = some false := by decide +kernel
theorem kit_int_list : kitB "int" "list" = some false := by decide +kernel
theorem kit_int_tuple : kitB "int" "tuple" = some false := by decide +kernel
theorem kit_str_bool : kitB "str" "bool" = some false := by decide +kernel
theorem kit_str_int : kitB "str" "int" = some false := by decide +kernel
theorem kit_str_str : kitB "str" "str" = some true := by decide +kernel
theorem kit_str_list : kitB "str" "list" = some false := by decide +kernel
theorem kit_str_tuple : kitB "str" "tuple" = some false := by decide +kernel
theorem kit_list_bool : kitB "list" "bool" = some false := by decide +kernel
theorem kit_list_int : kitB "list" "int" = some false := by decide +kernel
theorem kit_list_str : kitB "list" "str" = some false := by decide +kernel
theorem kit_list_list : kitB "list" "list" = some true := by decide +kernel
theorem kit_list_tuple : kitB "list" "tuple" = some false := by decide +kernel
theorem kit_tuple_bool : kitB "tuple" "bool" = some false := by decide +kernel
theorem kit_tuple_int : kitB "tuple" "int" = some false := by decide +kernel
theorem kit_tuple_str : kitB "tuple" "str" = some false := by decide +kernel
theorem kit_tuple_list : kitB "tuple" "list" = some false := by decide +kernel
theorem kit_tuple_tuple : kitB "tuple" "tuple" = some true := by decide +kernel
/-! ### texts -/
theorem rd_leS {y z : Str} : RD (fun x y H Q => ∃ i j, x = .str i ∧ y = .str j ∧ Q (.bl (!decide (j.cps.toList < i.cps.toList))) H) (.str y) (.str z) (.bool (!decide (z.cps.toList < y.cps.toList))) := fun G1 _ _ _ s hx hy _ q =>
  ⟨y, z, hx.str_eq, hy.str_eq, q _ G1 _ (.refl s) (.bl _)⟩
theorem rd_ltS {y z : Str} : RD (fun x y H Q => ∃ i j, x = .str i ∧ y = .str j ∧ Q (.bl (decide (i.cps.toList < j.cps.toList))) H) (.str y) (.str z) (.bool (decide (y.cps.toList < z.cps.toList))) := fun G1 _ _ _ s hx hy _ q =>
  ⟨y, z, hx.str_eq, hy.str_eq, q _ G1 _ (.refl s) (.bl _)⟩
theorem rd_InC {c : Nat} {z : Str} : RD (fun x y H Q => ∃ (c : Nat) (z : Str), x = .str ⟨#[c]⟩ ∧ y = .str z ∧ Q (.bl (decide (c ∈ z.cps.toList))) H) (.str ⟨#[c]⟩) (.str z) (.bool (decide (c ∈ z.cps.toList))) := fun G1 _ _ _ s hx hy _ q =>
  ⟨c, z, hx.str_eq, hy.str_eq, q _ G1 _ (.refl s) (.bl _)⟩
def repS (z : Str) (n : Int) : Str := if (n == 1 || z.length == 0) = true then z else ⟨(List.replicate n.toNat z.cps).foldl (· ++ ·) #[]⟩
theorem rep_size (a : Array Nat) : ∀ (k : Nat) (acc : Array Nat), ((List.replicate k a).foldl (· ++ ·) acc).size = acc.size + k * a.size
  | 0, acc => by simp
  | k + 1, acc => by
    rw [List.replicate_succ, List.foldl_cons, rep_size a k, Array.size_append, Nat.succ_mul]; omega
theorem repS_len {z : Str} {n : Int} (h : 1 ≤ n) : (repS z n).length = z.length * n.toNat := by
  unfold repS
  split
  · rename_i h2
    rw [Bool.or_eq_true] at h2
    rcases h2 with h2 | h2
    · have e : n = 1 := by simpa using h2
      subst e; simp
    · have e : z.length = 0 := by simpa using h2
      rw [e]; simp
  · show ((List.replicate n.toNat z.cps).foldl (· ++ ·) #[]).size = z.cps.size * n.toNat
    rw [rep_size]; simp [Nat.mul_comm]
theorem repS_mem {z : Str} {n : Int} {P : Nat → Prop} (h : ∀ c ∈ z.cps.toList, P c) : ∀ c ∈ (repS z n).cps.toList, P c := by
  have go : ∀ (k : Nat) (acc : Array Nat), (∀ c ∈ acc.toList, P c) → ∀ c ∈ ((List.replicate k z.cps).foldl (· ++ ·) acc).toList, P c := by
    intro k
    induction k with
    | zero => intro acc ha c hc; exact ha c hc
    | succ k ih =>
      intro acc ha c hc
      rw [List.replicate_succ, List.foldl_cons] at hc
      refine ih _ (fun c hc => ?_) c hc
      rw [Array.toList_append] at hc
      rcases List.mem_append.mp hc with h1 | h1
      · exact ha c h1
      · exact h c h1
  unfold repS
  split
  · exact h
  · exact go _ _ (by simp)
def rRepS : R2 := fun x y H Q => ∃ (z : Str) (n : Int), x = .str z ∧ y = .int n ∧ (1 ≤ n ∧ n ≤ 1000 ∧ z.length ≤ 1000) ∧ Q (.str (repS z n)) H
theorem op_repS {X : Cx} : OpR X (binaryOp .Mult) rRepS := by
  intro pins s σ H x y v u Q I rx ry h
  obtain ⟨z, n, rfl, rfl, ⟨h1, h2, h3⟩, q⟩ := h
  obtain ⟨t, rfl⟩ := rx
  obtain ⟨t', rfl⟩ := ry
  have e1 : decide (n < -(2 ^ 63 : Int)) = false := decide_eq_false (by omega)
  have e2 : decide (n ≥ (2 ^ 63 : Int)) = false := decide_eq_false (by omega)
  have hm : z.length * n.toNat ≤ 1000 * 1000 := Nat.mul_le_mul h3 (by omega)
  refine PySem.P.mul_str (by rw [e1, e2]; rfl) (fun _ _ => ?_) (fun _ _ => ?_) ?_
  · have h4 : (2 ^ 63 - 1 : Int) / n ≥ 1000 := by
      refine Int.le_ediv_of_mul_le (by omega) ?_
      have : (1000 : Int) * n ≤ 1000 * 1000 := by omega
      omega
    omega
  · unfold PySem.Builtin.Str.tooLong
    exact decide_eq_false (by have : (sizeLine : Nat) ≥ 1000000 := by decide
                              omega)
  · rw [if_neg (by omega)]
    by_cases e : (n == 1 || z.length == 0) = true
    · rw [if_pos e]
      have er : repS z n = z := if_pos e
      rw [er] at q
      exact ⟨.str z, H, I, ⟨_, rfl⟩, q⟩
    · rw [if_neg e]
      have eq : repS z n = ⟨(List.replicate n.toNat z.cps).foldl (· ++ ·) #[]⟩ := if_neg e
      rw [eq] at q
      have el := repS_len (z := z) h1
      rw [eq] at el
      exact ⟨by rw [el]; exact Nat.le_trans hm (by decide), .str _, H, I.tok _, ⟨_, rfl⟩, q⟩
theorem rd_repS {z : Str} {n : Int} (h : 1 ≤ n ∧ n ≤ 1000 ∧ z.length ≤ 1000) : RD rRepS (.str z) (.int n) (.str (repS z n)) := fun G1 _ _ _ s hx hy _ q =>
  ⟨z, n, hx.str_eq, hy.int_eq, h, q _ G1 _ (.refl s) (.str _)⟩
/-- a text walked by a comprehension -/
theorem lc_str {z : Str} {g : TG} {tt : TT} {te : TE} {vs : List Nat} {σ : L2.St} {H1 : Hp} {D : Addr} {Qd : Hp → Prop} (Pv : Nat → Hp → Prop) (h0 : Pv 0 (upd H1 D (.lst [])))
    (hs : ∀ i c H, z.cps[i]? = some c → Pv i H → g (.str ⟨#[c]⟩) (wipe σ vs) H fun σ2 H2 => wipe σ2 vs = wipe σ vs ∧ tt σ2 H2 fun b H3 =>
      if b = true then te σ2 H3 fun y H4 => ∃ acc, H4 D = some (.lst acc) ∧ acc.length < sizeLine ∧ Pv (i + 1) (upd H4 D (.lst (acc ++ [y]))) else Pv (i + 1) H3) (hd : ∀ H, Pv z.cps.size H → Qd H) :
    ∃ W : Nat → Nat → Hp → Prop, (∃ m, W 0 m (upd H1 D (.lst []))) ∧ ∀ i m H, W i m H →
      ((Its z).stop i H ∧ Qd H) ∨ ((Its z).go i H ∧ ∃ Nx : Hp → Prop, (∀ H', Nx H' → ∃ m', m' < m ∧ W (i + 1) m' H') ∧ ∀ x H', (Its z).yld i H x H' → g x (wipe σ vs) H' fun σ2 H2 => wipe σ2 vs = wipe σ vs ∧ tt σ2 H2 fun b H3 =>
        if b = true then te σ2 H3 fun y H4 => ∃ acc, H4 D = some (.lst acc) ∧ acc.length < sizeLine ∧ Nx (upd H4 D (.lst (acc ++ [y]))) else Nx H3) := by
  refine ⟨fun i m H => m = z.cps.size - i ∧ i ≤ z.cps.size ∧ Pv i H, ⟨z.cps.size, by simp, Nat.zero_le _, h0⟩, ?_⟩
  rintro i m H ⟨rfl, hi, p⟩
  by_cases hlt : i < z.cps.size
  · refine Or.inr ⟨hlt, Pv (i + 1), fun H' p' => ⟨z.cps.size - (i + 1), by omega, rfl, hlt, p'⟩, fun x H' y => ?_⟩
    obtain ⟨rfl, c, hc, rfl⟩ := y
    exact hs i c _ hc p
  · have e : i = z.cps.size := by omega
    subst e
    exact Or.inl ⟨Nat.le_refl _, hd H p⟩
section
variable {K : PySem.W.Frag} {σ : L2.St} {G H : Hp} {ta te : TE} {tt : TT} {d : PyData}
theorem ev_lcS {tl : TE} {z : Str} {j : Nat} {vs : List Nat} (f : Nat → Bool) (v : Nat → PyData) (h : EvD tl σ G H (.str z)) (hz : z.length ≤ 40000) (hw : ∀ x, wipe ((wipe σ vs).set j (some x)) vs = wipe σ vs)
    (ht : ∀ (i : Nat) (c : Nat), z.cps[i]? = some c → EvT tt ((wipe σ vs).set j (some (.str ⟨#[c]⟩))) G H (f i)) (he : ∀ (i : Nat) (c : Nat), z.cps[i]? = some c → f i = true → EvD te ((wipe σ vs).set j (some (.str ⟨#[c]⟩))) G H (v i)) :
    EvM (tLc (iStr tl) (gName j) tt te vs) σ G H (given z.length f v) := fun G0 H0 a Q q => h G0 H0 a _ fun u G1 H1 g1 x => by
  have hz' : z.cps.size ≤ 40000 := hz
  have gg := a.trans g1
  refine ⟨z, x.str_eq, fun l hl => lc_str (z := z) (Cw G1 H1 f v l) ⟨G1, [], (Gr.refl g1.s).own hl, g1.s.none hl, upd_same, by exact .nil⟩ (fun i c H' hc p => ?_) (fun H' p => ?_)⟩
  · have hi : i < z.cps.size := (Array.getElem?_eq_some_iff.mp hc).1
    exact ⟨hw _, cw_turn hl p (by omega) ((ht i c hc).mono gg) (fun hf => (he i c hc hf).mono gg)⟩
  · obtain ⟨G', xs, k1, k2, k3, k4⟩ := p
    exact q l xs G' H' (g1.trans k1) (g1.free hl) k2 k3 k4
end
theorem cd_all' {K : PySem.W.Frag} {ds : List PyData} {bs : List Bool} (h : ds = bs.map .bool) : CD (rAll K) [.list ds] (.bool (bs.all id)) := by rw [h]; exact cd_all
/-! promises whose value is one of several -/
def SpR {α : Type} (args : α → List PyData) (pre : α → Prop) (R : α → PyData → Prop) : Sp := fun vs H Q _ => ∃ G x, Sb G H ∧ Dxs G vs (args x) ∧ pre x ∧ ∀ v d G' H', Gr [] G H G' H' → R x d → Dx G' v d → Q v H'
theorem ev_callR {σ : L2.St} {G H : Hp} {E : XK} {t : TA} {α : Type} {args : α → List PyData} {pre : α → Prop} {R : α → PyData → Prop} (x : α) (h : EvA t σ G H (args x)) (hp : pre x) : EvP (tCall (SpR args pre R) [] E t) σ G H (R x) := fun G1 H1 a Q q =>
  h G1 H1 a _ fun vs G2 H2 g xs => ⟨G2, x, g.s, by rw [List.append_nil]; exact xs, hp, fun v d G3 H3 g3 r z => q v d G3 H3 (g.trans g3) r z⟩

/-! ### the rules with the written part said -/
section
variable {X : Cx} {K : PySem.W.Frag}
theorem ix_listK (h : X.K = K := by rfl) : IxR X (rIxL K) := by subst h; exact ix_list
theorem ix_tupK (h : X.K = K := by rfl) : IxR X (rIxT K) := by subst h; exact ix_tup
theorem ix_seqK (h : X.K = K := by rfl) : IxR X (rIx K) := by subst h; exact ix_seq
theorem op_eqDK (hu : X.A.units + 64 < cLine) (h : X.K = K := by rfl) : OpR X (compareOp .Eq) (rEqD K) := by subst h; exact op_eqD hu
theorem op_neDK (hu : X.A.units + 64 < cLine) (h : X.K = K := by rfl) : OpR X (compareOp .NotEq) (rNeD K) := by subst h; exact op_neD hu
theorem op_inK (h : X.K = K := by rfl) : OpR X (compareOp .In) (rIn K false) := by subst h; exact op_in_seq
theorem op_ninK (h : X.K = K := by rfl) : OpR X (compareOp .NotIn) (rIn K true) := by subst h; exact op_notIn_seq
theorem sl_listK (h : X.K = K := by rfl) : SlR X (rSlL K) := by subst h; exact sl_list
theorem cr_sumK (hc : X.calm = true) (h : X.K = K := by rfl) : CallR X (.builtin "sum") (rSum K) := by subst h; exact cr_sum hc
theorem cr_allK (hc : X.calm = true) (h : X.K = K := by rfl) : CallR X (.builtin "all") (rAll K) := by subst h; exact cr_all hc
theorem call_lenK (h : X.K = K := by rfl) : CallR X (.builtin "len") (fun xs H Q => ∃ p ys, xs = [.ref p] ∧ (SqL K H p ys ∨ SqT K H p ys) ∧ Q (.int ys.length) H) := by subst h; exact call_len_seq
theorem call_listK (h : X.K = K := by rfl) : CallR X (.type "list") (fun xs H Q => ∃ p ys, xs = [.ref p] ∧ (SqL K H p ys ∨ SqT K H p ys) ∧ ∀ l, H l = none → Q (.ref l) (upd H l (.lst ys))) := by subst h; exact call_list_of
theorem call_isiKK (h : X.K = K := by rfl) : CallR X (.builtin "isinstance") (rIsi K) := by subst h; exact call_isi
theorem call_isiTK (h : X.K = K := by rfl) : CallR X (.builtin "isinstance") (rIsiT K) := by subst h; exact call_isiT
end
theorem rd_isN {d : PyData} : RD (fun x y H Q => y = .non ∧ Q (.bl (decide (x = .non))) H) d .none (.bool (isNone d)) := fun G1 _ x y s hx hy _ q => by
  have e : decide (x = V.non) = isNone d := by cases hx <;> rfl
  refine ⟨hy.non_eq, ?_⟩
  rw [e]; exact q _ G1 _ (.refl s) (.bl _)
theorem rd_notN {d : PyData} : RD (fun x y H Q => y = .non ∧ Q (.bl (!decide (x = .non))) H) d .none (.bool (!isNone d)) := fun G1 _ x y s hx hy _ q => by
  have e : decide (x = V.non) = isNone d := by cases hx <;> rfl
  refine ⟨hy.non_eq, ?_⟩
  rw [e]; exact q _ G1 _ (.refl s) (.bl _)

/-! ### enumerate, targets that are tuples -/
section
variable {K : PySem.W.Frag} {σ : L2.St} {G H : Hp} {tz tu : TS} {D : Ends}
theorem g_nn {i j : Nat} {v : V} {d1 d2 : PyData} {Q : L2.St → Hp → Prop} (x : Dx G v (.tuple [d1, d2])) (s : Sb G H) (k : ∀ v1 v2, Dx G v1 d1 → Dx G v2 d2 → Q ((σ.set i (some v1)).set j (some v2)) H) : gTup K 2 (gCons (gName i) (gCons (gName j) gNil)) v σ H Q := by
  obtain ⟨a, xs, rfl, ha, dxs⟩ := x.tup_eq
  obtain ⟨v1, v2, rfl, h1, h2⟩ := dxs2 dxs
  exact ⟨a, [v1, v2], rfl, Or.inl (Or.inl (s _ _ ha)), rfl, v1, [v2], rfl, v2, [], rfl, rfl, k v1 v2 h1 h2⟩
theorem g_n_nn {i j l : Nat} {v : V} {d1 d2 d3 : PyData} {Q : L2.St → Hp → Prop} (x : Dx G v (.tuple [d1, .tuple [d2, d3]])) (s : Sb G H) (k : ∀ v1 v2 v3, Dx G v1 d1 → Dx G v2 d2 → Dx G v3 d3 → Q (((σ.set i (some v1)).set j (some v2)).set l (some v3)) H) :
    gTup K 2 (gCons (gName i) (gCons (gTup K 2 (gCons (gName j) (gCons (gName l) gNil))) gNil)) v σ H Q := by
  obtain ⟨a, xs, rfl, ha, dxs⟩ := x.tup_eq
  obtain ⟨v1, v2, rfl, h1, h2⟩ := dxs2 dxs
  obtain ⟨b, ys, rfl, hb, dys⟩ := h2.tup_eq
  obtain ⟨w1, w2, rfl, k1, k2⟩ := dxs2 dys
  exact ⟨a, [v1, .ref b], rfl, Or.inl (Or.inl (s _ _ ha)), rfl, v1, [.ref b], rfl, .ref b, [], rfl, ⟨b, [w1, w2], rfl, Or.inl (Or.inl (s _ _ hb)), rfl, w1, [w2], rfl, w2, [], rfl, rfl, rfl, k v1 w1 w2 h1 k1 k2⟩⟩
theorem for_enum {a : Addr} {xs : List V} {g : TG} {tb : TS} {D : Ends} {σ : L2.St} {H : Hp} (Pv : Nat → L2.St → Hp → Prop) (h0 : Pv 0 σ H) (hl : ∀ i σ H, i ≤ xs.length → Pv i σ H → SqL K H a xs)
    (hs : ∀ i x σ H T, xs[i]? = some x → Pv i σ H → H T = none → g (.ref T) σ (upd H T (.tup [.int (i : Nat), x])) fun σ2 H2 => tb { D with nx := Pv (i + 1), ct := Pv (i + 1), bk := D.nx } σ2 H2) (hd : ∀ σ H, Pv xs.length σ H → D.nx σ H) :
    ∃ W : Nat → Nat → L2.St → Hp → Prop, (∃ m, W 0 m σ H) ∧ ∀ i m σ H, W i m σ H →
      ((Ite K a).stop i H ∧ D.nx σ H) ∨ ((Ite K a).go i H ∧ ∃ N : L2.St → Hp → Prop, (∀ σ' H', N σ' H' → ∃ m', m' < m ∧ W (i + 1) m' σ' H') ∧ ∀ x H', (Ite K a).yld i H x H' → g x σ H' fun σ2 H2 => tb { D with nx := N, ct := N, bk := D.nx } σ2 H2) := by
  refine ⟨fun i m σ H => m = xs.length - i ∧ i ≤ xs.length ∧ Pv i σ H, ⟨xs.length, by simp, Nat.zero_le _, h0⟩, ?_⟩
  rintro i m σ H ⟨rfl, hi, p⟩
  have q := hl i σ H hi p
  by_cases hlt : i < xs.length
  · refine Or.inr ⟨⟨xs, xs[i], q, by simp [hlt]⟩, Pv (i + 1), fun σ' H' p' => ⟨xs.length - (i + 1), by omega, rfl, hlt, p'⟩, fun x H' y => ?_⟩
    obtain ⟨T, u, rfl, hT, rfl, hu⟩ := y
    exact hs i u σ H T (hu xs q) p hT
  · have e : i = xs.length := by omega
    subst e
    exact Or.inl ⟨⟨xs, q, Nat.le_refl _⟩, hd σ H p⟩
theorem s_forE {t : TA} {g : TG} {ds : List PyData} (M : List Addr) (I : Nat → L2.St → Hp → Hp → Prop) (h : EvA t σ G H [.list ds]) (s : Sb G H) (h0 : ∀ G1 H1, Gr [] G H G1 H1 → I 0 σ G1 H1)
    (hs : ∀ G1 H1, Gr [] G H G1 H1 → ∀ (n : Nat) d v σ' G' H' G2 H2, ds[n]? = some d → Gr M G1 H1 G' H' → I n σ' G' H' → Gr [] G' H' G2 H2 → Dx G2 v (.tuple [.int (n : Int), d]) → g v σ' H2 fun σ2 H3 => tu { D with nx := Nx M G1 H1 I (n + 1), ct := Nx M G1 H1 I (n + 1), bk := D.nx } σ2 H3)
    (hd : ∀ σ' G' H', Gr M G H G' H' → I ds.length σ' G' H' → D.nx σ' H') : tFor (iEnum K t) g tu D σ H :=
  h G H (.refl s) _ fun vs G1 H1 g1 x => by
    obtain ⟨v, rfl, hv⟩ := dxs1 x
    obtain ⟨a, xs, rfl, ha, dxs⟩ := hv.lst_eq
    refine ⟨a, xs, rfl, Or.inl (Or.inl (g1.s _ _ ha)), for_enum (xs := xs) (Nx M G1 H1 I) ⟨G1, .refl g1.s, h0 G1 H1 g1⟩ (fun n σ' H' _ p => ?_) (fun n x σ' H' T hx p hT => ?_) (fun σ' H' p => ?_)⟩
    · obtain ⟨G', g', _⟩ := p
      exact Or.inl (Or.inl (g'.s _ _ (g'.g _ _ ha)))
    · obtain ⟨G', g', w⟩ := p
      obtain ⟨d, hd1, hd2⟩ := dxs.getV hx
      have hn := g'.s.none hT
      refine hs G1 H1 g1 n d (.ref T) σ' G' H' (upd G' T (.tup [.int (n : Nat), x])) _ hd1 g' w ((Gr.refl g'.s).data hT) (.tup upd_same (.cons (.int _) (.cons ?_ .nil)))
      exact (hd2.mono g'.g).mono (Sb.new hn)
    · obtain ⟨G', g', w⟩ := p
      rw [dxs.len] at w
      exact hd σ' G' H' (g1.any.trans g') w
theorem q_forE {t : TA} {g : TG} {ds : List PyData} (M : List Addr) (I : Nat → L2.St → Hp → Hp → Prop) (h : EvA t σ G H [.list ds]) (s : Sb G H) (h0 : ∀ G1 H1, Gr [] G H G1 H1 → I 0 σ G1 H1)
    (hs : ∀ G1 H1, Gr [] G H G1 H1 → ∀ (n : Nat) d v σ' G' H' G2 H2, ds[n]? = some d → Gr M G1 H1 G' H' → I n σ' G' H' → Gr [] G' H' G2 H2 → Dx G2 v (.tuple [.int (n : Int), d]) → g v σ' H2 fun σ2 H3 => tu { D with nx := Nx M G1 H1 I (n + 1), ct := Nx M G1 H1 I (n + 1), bk := tz D } σ2 H3)
    (hd : ∀ σ' G' H', Gr M G H G' H' → I ds.length σ' G' H' → tz D σ' H') : tSeq (tFor (iEnum K t) g tu) tz D σ H := s_forE (D := { D with nx := tz D }) M I h s h0 hs hd
end

/-! ### several own objects become data at once -/
open Classical in
noncomputable def addAll (S : Addr → Prop) (G H : Hp) : Hp := fun a => if S a then H a else G a
theorem addAll_in {S : Addr → Prop} {G H : Hp} {a : Addr} (h : S a) : addAll S G H a = H a := if_pos h
theorem addAll_out {S : Addr → Prop} {G H : Hp} {a : Addr} (h : ¬ S a) : addAll S G H a = G a := if_neg h
theorem Sb.addAll {S : Addr → Prop} {G H : Hp} (h : ∀ a, S a → G a = Option.none) : Sb G (addAll S G H) := fun a o e => by
  by_cases q : S a
  · rw [h a q] at e; cases e
  · rw [addAll_out q]; exact e
theorem Gr.freezeAll {M : List Addr} {G H G' H' : Hp} (x : Gr M G H G' H') (S : Addr → Prop) (hn : ∀ a, S a → G' a = none) (h0 : ∀ a, S a → H a = none) : Gr M G H (addAll S G' H') H' :=
  ⟨x.g.trans (Sb.addAll hn), fun a o e => by
    by_cases q : S a
    · rw [addAll_in q] at e; exact e
    · rw [addAll_out q] at e; exact x.s a o e, x.h, x.t, fun a u e e0 => by
    by_cases q : S a
    · rw [h0 a q] at e; cases e
    · rw [addAll_out q]; exact x.n a u e e0⟩
/-- data for a while, several objects -/
theorem Gr.thawAll {M : List Addr} {S : Addr → Prop} {G H G2 H2 : Hp} (x : Gr M (addAll S G H) H G2 H2) (hn : ∀ a, S a → G a = none) : Gr M G H G H2 :=
  ⟨Sb.refl G, ((Sb.addAll hn).trans x.g).trans x.s, x.h, x.t, fun _ _ _ e => e⟩
section
variable {K : PySem.W.Frag} {σ : L2.St} {G H : Hp}
theorem ea_star {te : TE} {tr : TA} {ds es : List PyData} (h : EvD te σ G H (.list ds)) (hr : EvA tr σ G H es) : EvA (StX.tStar K te tr) σ G H (ds ++ es) := fun G1 H1 a _ q =>
  h G1 H1 a _ fun v G2 H2 g x => by
    obtain ⟨p, xs, rfl, hp, dxs⟩ := x.lst_eq
    exact ⟨p, xs, rfl, Or.inr (Or.inl (Or.inl (g.s _ _ hp))), hr G2 H2 (a.trans g) _ fun vs G3 H3 g3 ys => q _ G3 H3 (g.trans g3) ((dxs.mono g3.g).app ys)⟩
theorem inV_str {z : Str} : ∀ zs : List Str, inV (.str z) (zs.map V.str) = decide (z ∈ zs)
  | [] => by simp [inV]
  | y :: ys => by
    have ih := inV_str (z := z) ys
    unfold inV at ih ⊢
    rw [List.map_cons, List.any_cons, ih]
    have e : eqV (V.str y) (V.str z) = decide (y = z) := by
      show (y == z) = decide (y = z)
      rfl
    rw [e]
    by_cases h : y = z
    · subst h; simp
    · simp [h, Ne.symm h]
      first
        | done
        | (intro h2; exact absurd h2.symm h)
theorem all_flat : ∀ zs : List Str, (zs.map V.str).all flatV = true
  | [] => rfl
  | y :: ys => by rw [List.map_cons, List.all_cons, all_flat ys]; rfl
theorem rd_InL {z : Str} {zs : List Str} : RD (rIn K false) (.str z) (.list (zs.map .str)) (.bool (decide (z ∈ zs))) := fun G1 H1 x y s hx hy Q q => by
  obtain ⟨a, xs, rfl, ha, dxs⟩ := hy.lst_eq
  rw [dxs.strs_eq] at ha
  rw [hx.str_eq]
  refine ⟨a, _, rfl, Or.inl (Or.inl (Or.inl (s _ _ ha))), rfl, all_flat zs, ?_⟩
  show Q (.bl (inV (.str z) (zs.map V.str))) H1
  rw [inV_str]; exact q _ G1 H1 (.refl s) (.bl _)
end

section
variable {K : PySem.W.Frag} {σ : L2.St} {B C G H : Hp} {te tb : TE} {ds es : List PyData} {D : Ends} {tz : TS} {i : Nat} {l : Addr} {xs : List V}
theorem et_truL (h : EvD te σ G H (.list ds)) : EvT (fun σ H Q => te σ H fun x H' => ∃ k, TruV K x H' k ∧ Q k H') σ G H (!ds.isEmpty) := fun G1 H1 a Q q =>
  h G1 H1 a _ fun v G2 H2 g x => by
    obtain ⟨p, xs, rfl, hp, dxs⟩ := x.lst_eq
    refine ⟨!ds.isEmpty, Or.inl ⟨xs, Or.inl (Or.inl (g.s _ _ hp)), ?_⟩, q G2 H2 g⟩
    have := dxs.len
    cases xs <;> cases ds <;> first | rfl | cases this
/-- xs.append(e), e a new list that stays own -/
theorem s_appM (o : Ow B C G H l xs) (hv : σ[i]? = some (some (.ref l))) (h : EvM te σ G H ds) (hz : xs.length < 100000)
    (k : ∀ q ys G1 H1, Gr [] G H G1 H1 → H q = none → G1 q = none → H1 q = some (.lst ys) → Dxs G1 ys ds → Ow B C G1 (upd H1 l (.lst (xs ++ [.ref q]))) l (xs ++ [.ref q]) → D.nx σ (upd H1 l (.lst (xs ++ [.ref q])))) :
    tDrop (tBM K "list" rAppend (tVar i) (tCons te tNil)) D σ H :=
  ⟨.ref l, hv, Or.inl ⟨rfl, xs, Or.inl (Or.inl o.hl)⟩, h G H (.refl o.s) _ fun q ys G1 H1 g h0 hn h1 hx =>
    ⟨l, xs, .ref q, rfl, rfl, g.h l _ (by simp) o.hl, Evl.sz_lt hz, k q ys G1 H1 g h0 hn h1 hx (o.put g _)⟩⟩
theorem s_retLM (h : EvM te σ G H ds) (s : Sb G H) (k : ∀ q ys G1 H1 l, Gr [] G H G1 H1 → H q = none → G1 q = none → H1 q = some (.lst ys) → Dxs G1 ys ds → H1 l = none → D.rt (.ref l) (upd H1 l (.lst [.ref q]))) : tRet (tLst (tCons te tNil)) D σ H :=
  h G H (.refl s) _ fun q ys G1 H1 g q0 qn hq hx => ⟨by show 1 ≤ sizeLine; decide, fun l hl => k q ys G1 H1 l g q0 qn hq hx hl⟩
/-- own list + list -/
theorem ev_catO (h : σ[i]? = some (some (.ref l))) (hl : H l = some (.lst xs)) (hx : Dxs G xs ds) (hb : EvD tb σ G H (.list es)) (hz : ds.length + es.length ≤ 100000) : EvM (tOp rCat (tVar i) tb) σ G H (ds ++ es) := fun G1 H1 a Q q =>
  ⟨.ref l, h, hb G1 H1 a _ fun v G2 H2 g x => by
    obtain ⟨p, ys, rfl, hp, dys⟩ := x.lst_eq
    have dxs := hx.mono (a.trans g).g
    exact ⟨l, p, xs, ys, rfl, rfl, (a.trans g).h l _ (by simp) hl, g.s _ _ hp, Evl.sz_of (by rw [dxs.len, dys.len]; exact hz), fun r hr => q r _ G2 _ (g.own hr) (g.free hr) (g.s.none hr) upd_same (dxs.app dys)⟩⟩
end
theorem paired_app {α β : Type} {F : α → β → Prop} : ∀ {a c : List α} {b d : List β}, Paired F a b → Paired F c d → Paired F (a ++ c) (b ++ d)
  | _, _, _, _, .nil, t => t
  | _, _, _, _, .cons h t, u => .cons h (paired_app t u)
theorem paired_mono {α β : Type} {F E : α → β → Prop} (h : ∀ a b, F a b → E a b) : ∀ {a : List α} {b : List β}, Paired F a b → Paired E a b
  | _, _, .nil => .nil
  | _, _, .cons r t => .cons (h _ _ r) (paired_mono h t)
theorem given_list {α β : Type} (L : List α) (d : α) (φ : α → Bool) (ψ : α → β) : given L.length (fun i => φ (L.getD i d)) (fun i => ψ (L.getD i d)) = (L.filter φ).map ψ := by
  have e : (List.range L.length).map (fun i => L.getD i d) = L := by
    apply List.ext_getElem
    · simp
    · intro i h1 h2
      simp only [List.getElem_map, List.getElem_range]
      rw [List.getD_eq_getElem?_getD, List.getElem?_eq_getElem h2]; rfl
  have e2 : L.filter φ = ((List.range L.length).filter (φ ∘ fun i => L.getD i d)).map (fun i => L.getD i d) := by
    conv => lhs; rw [← e]
    rw [List.filter_map]
  unfold given
  rw [e2, List.map_map]
  rfl

section
variable {K : PySem.W.Frag} {σ : L2.St} {G H : Hp} {tz tu : TS} {D : Ends} {ds : List PyData}
/-- over a list that a name holds -/
theorem q_forV {g : TG} {i : Nat} {v : V} (M : List Addr) (I : Nat → L2.St → Hp → Hp → Prop) (hv : σ[i]? = some (some v)) (x : Dx G v (.list ds)) (s : Sb G H) (h0 : I 0 σ G H)
    (hs : ∀ n d v σ' G' H', ds[n]? = some d → Dx G' v d → Gr M G H G' H' → I n σ' G' H' → g v σ' H' fun σ2 H2 => tu { D with nx := Nx M G H I (n + 1), ct := Nx M G H I (n + 1), bk := tz D } σ2 H2)
    (hd : ∀ σ' G' H', Gr M G H G' H' → I ds.length σ' G' H' → tz D σ' H') : tSeq (tFor (iList K (tVar i)) g tu) tz D σ H := by
  obtain ⟨a, xs, rfl, ha, dxs⟩ := x.lst_eq
  refine ⟨.ref a, hv, a, rfl, ⟨xs, Or.inl (Or.inl (s _ _ ha))⟩, for_list (xs := xs) (Nx M G H I) ⟨G, .refl s, h0⟩ (fun n σ' H' _ p => ?_) (fun n x σ' H' hx p => ?_) (fun σ' H' p => ?_)⟩
  · obtain ⟨G', g', _⟩ := p
    exact Or.inl (Or.inl (g'.s _ _ (g'.g _ _ ha)))
  · obtain ⟨G', g', w⟩ := p
    obtain ⟨d, hd1, hd2⟩ := dxs.getV hx
    exact hs n d x σ' G' H' hd1 (hd2.mono g'.g) g' w
  · obtain ⟨G', g', w⟩ := p
    rw [dxs.len] at w
    exact hd σ' G' H' g' w
end

section
variable {K : PySem.W.Frag} {σ : L2.St} {B C G H : Hp} {te : TE} {ds : List PyData} {D : Ends} {tz : TS} {i : Nat} {l : Addr} {xs : List V}
theorem q_appM (o : Ow B C G H l xs) (hv : σ[i]? = some (some (.ref l))) (h : EvM te σ G H ds) (hz : xs.length < 100000)
    (k : ∀ q ys G1 H1, Gr [] G H G1 H1 → H q = none → G1 q = none → H1 q = some (.lst ys) → Dxs G1 ys ds → Ow B C G1 (upd H1 l (.lst (xs ++ [.ref q]))) l (xs ++ [.ref q]) → tz D σ (upd H1 l (.lst (xs ++ [.ref q])))) :
    tSeq (tDrop (tBM K "list" rAppend (tVar i) (tCons te tNil))) tz D σ H := s_appM (D := { D with nx := tz D }) o hv h hz k
/-- xs[0].append(c), xs an own list of own lists -/
theorem q_app0 {q : Addr} {rest ys : List V} {c : V} (hv : σ[i]? = some (some (.ref l))) (hl : H l = some (.lst (.ref q :: rest))) (hq : H q = some (.lst ys)) (hz : ys.length < 100000)
    (k : tz D σ (upd H q (.lst (ys ++ [c])))) : tSeq (tDrop (tBM K "list" rAppend (tOp (rIxL K) (tVar i) (tC (.int 0))) (tCons (tC c) tNil))) tz D σ H :=
  ⟨.ref l, hv, l, _, 0, .ref q, rfl, rfl, Or.inl (Or.inl hl), atI_nat (j := 0) rfl, Or.inl ⟨rfl, _, Or.inl (Or.inl hq)⟩, q, ys, c, rfl, rfl, hq, Evl.sz_lt hz, k⟩
end
end Gd

namespace My
open PySem L2 Gd
def top (i : Nat) : Stmt := PySem.Challenge.pw_allonge_k06_whole_one_bearer.main.body.getD i (.Pass ⟨0, 0, 0, 0⟩)
abbrev s_reach : Stmt := top 2
abbrev N_reach : List Str := ["row", "house", "place", "signer", "bound"]
theorem sc_reach : FnScope N_reach ["row", "house"] (defScope s_reach) := ⟨rfl, rfl, rfl, by decide +kernel, rfl, by decide +kernel, by decide +kernel⟩
abbrev s_askable : Stmt := top 3
abbrev N_askable : List Str := ["row", "holder", "protested", "place"]
theorem sc_askable : FnScope N_askable ["row", "holder", "protested"] (defScope s_askable) := ⟨rfl, rfl, rfl, by decide +kernel, rfl, by decide +kernel, by decide +kernel⟩
abbrev s_returned : Stmt := top 4
abbrev N_returned : List Str := ["row", "place"]
theorem sc_returned : FnScope N_returned ["row", "place"] (defScope s_returned) := ⟨rfl, rfl, rfl, by decide +kernel, rfl, by decide +kernel, by decide +kernel⟩
abbrev s_payable : Stmt := top 5
abbrev N_payable : List Str := ["row", "holder", "able", "protested", "place"]
theorem sc_payable : FnScope N_payable ["row", "holder", "able", "protested"] (defScope s_payable) := ⟨rfl, rfl, rfl, by decide +kernel, rfl, by decide +kernel, by decide +kernel⟩
abbrev s_runs_of : Stmt := top 6
abbrev N_runs_of : List Str := ["row", "holder", "able", "protested", "places", "runs", "place", "rest"]
theorem sc_runs_of : FnScope N_runs_of ["row", "holder", "able", "protested"] (defScope s_runs_of) := ⟨rfl, rfl, rfl, by decide +kernel, rfl, by decide +kernel, by decide +kernel⟩
abbrev s_bearer_of : Stmt := top 7
abbrev N_bearer_of : List Str := ["row", "holder", "able", "protested", "places"]
theorem sc_bearer_of : FnScope N_bearer_of ["row", "holder", "able", "protested"] (defScope s_bearer_of) := ⟨rfl, rfl, rfl, by decide +kernel, rfl, by decide +kernel, by decide +kernel⟩
abbrev s_Lfeed : Stmt := top 9
abbrev N_Lfeed : List Str := ["_law_script", "_law_feed_here", "_law_cell", "_law_left", "_law_turn", "_law_seed"]
theorem sc_Lfeed : FnScope N_Lfeed ["_law_script"] (defScope s_Lfeed) := ⟨rfl, rfl, rfl, by decide +kernel, rfl, by decide +kernel, by decide +kernel⟩
abbrev s_Lname : Stmt := top 10
abbrev N_Lname : List Str := ["_law_pick", "_law_k", "_law_sign", "_law_at", "_law_words", "_law_some"]
theorem sc_Lname : FnScope N_Lname ["_law_pick", "_law_k"] (defScope s_Lname) := ⟨rfl, rfl, rfl, by decide +kernel, rfl, by decide +kernel, by decide +kernel⟩
abbrev s_Lreach : Stmt := top 11
abbrev N_Lreach : List Str := ["_law_row_here", "_law_house", "_law_place"]
theorem sc_Lreach : FnScope N_Lreach ["_law_row_here", "_law_house"] (defScope s_Lreach) := ⟨rfl, rfl, rfl, by decide +kernel, rfl, by decide +kernel, by decide +kernel⟩
abbrev s_Laskable : Stmt := top 12
abbrev N_Laskable : List Str := ["_law_row_here", "_law_holder", "_law_protested", "_law_before", "_law_place"]
theorem sc_Laskable : FnScope N_Laskable ["_law_row_here", "_law_holder", "_law_protested"] (defScope s_Laskable) := ⟨rfl, rfl, rfl, by decide +kernel, rfl, by decide +kernel, by decide +kernel⟩
abbrev s_Lrow : Stmt := top 13
abbrev N_Lrow : List Str := ["_law_feed_here", "_law_many", "_law_row_here", "_law_k"]
theorem sc_Lrow : FnScope N_Lrow ["_law_feed_here"] (defScope s_Lrow) := ⟨rfl, rfl, rfl, by decide +kernel, rfl, by decide +kernel, by decide +kernel⟩
abbrev s_Lable_names : Stmt := top 14
abbrev N_Lable_names : List Str := ["_law_feed_here", "_law_k"]
theorem sc_Lable_names : FnScope N_Lable_names ["_law_feed_here"] (defScope s_Lable_names) := ⟨rfl, rfl, rfl, by decide +kernel, rfl, by decide +kernel, by decide +kernel⟩
abbrev s_Lend : Stmt := top 15
abbrev N_Lend : List Str := ["_law_row_here", "_law_holder", "_law_able", "_law_protested", "_law_picks", "_law_pick", "_law_place", "_law_places"]
theorem sc_Lend : FnScope N_Lend ["_law_row_here", "_law_holder", "_law_able", "_law_protested", "_law_picks"] (defScope s_Lend) := ⟨rfl, rfl, rfl, by decide +kernel, rfl, by decide +kernel, by decide +kernel⟩
abbrev s_Lwalked : Stmt := top 16
abbrev N_Lwalked : List Str := ["_law_row_here", "_law_holder", "_law_run", "_law_place"]
theorem sc_Lwalked : FnScope N_Lwalked ["_law_row_here", "_law_holder", "_law_run"] (defScope s_Lwalked) := ⟨rfl, rfl, rfl, by decide +kernel, rfl, by decide +kernel, by decide +kernel⟩
abbrev s_Law : Stmt := top 17
abbrev N_Law : List Str := ["_law_script", "_law_feed_here", "_law_row_here", "_law_able", "_law_holder", "_law_protested", "_law_handed", "_law_due", "_law_picks", "_law_run"]
theorem sc_Law : FnScope N_Law ["_law_script"] (defScope s_Law) := ⟨rfl, rfl, rfl, by decide +kernel, rfl, by decide +kernel, by decide +kernel⟩
structure Ad where
  a_reach : Addr
  d_reach : FuncData
  a_askable : Addr
  d_askable : FuncData
  a_returned : Addr
  d_returned : FuncData
  a_payable : Addr
  d_payable : FuncData
  a_runs_of : Addr
  d_runs_of : FuncData
  a_bearer_of : Addr
  d_bearer_of : FuncData
  a_Lfeed : Addr
  d_Lfeed : FuncData
  a_Lname : Addr
  d_Lname : FuncData
  a_Lreach : Addr
  d_Lreach : FuncData
  a_Laskable : Addr
  d_Laskable : FuncData
  a_Lrow : Addr
  d_Lrow : FuncData
  a_Lable_names : Addr
  d_Lable_names : FuncData
  a_Lend : Addr
  d_Lend : FuncData
  a_Lwalked : Addr
  d_Lwalked : FuncData
  a_Law : Addr
  d_Law : FuncData
  t_FIRST_SIGNED : Tok
structure Txt (K : PySem.W.Frag) (mg : Str → Option Value) (A : Ad) : Prop where
  b : Bi mg
  g_FIRST_SIGNED : mg "FIRST_SIGNED" = some (.int 2 A.t_FIRST_SIGNED)
  m_reach : mg "reach" = some (.ref A.a_reach)
  F_reach : Fun K "reach" "reach" s_reach A.a_reach A.d_reach
  b_reach : Binds K A.d_reach ["row", "house"] []
  m_askable : mg "askable" = some (.ref A.a_askable)
  F_askable : Fun K "askable" "askable" s_askable A.a_askable A.d_askable
  b_askable : Binds K A.d_askable ["row", "holder", "protested"] []
  m_returned : mg "returned" = some (.ref A.a_returned)
  F_returned : Fun K "returned" "returned" s_returned A.a_returned A.d_returned
  b_returned : Binds K A.d_returned ["row", "place"] []
  m_payable : mg "payable" = some (.ref A.a_payable)
  F_payable : Fun K "payable" "payable" s_payable A.a_payable A.d_payable
  b_payable : Binds K A.d_payable ["row", "holder", "able", "protested"] []
  m_runs_of : mg "runs_of" = some (.ref A.a_runs_of)
  F_runs_of : Fun K "runs_of" "runs_of" s_runs_of A.a_runs_of A.d_runs_of
  b_runs_of : Binds K A.d_runs_of ["row", "holder", "able", "protested"] []
  m_bearer_of : mg "bearer_of" = some (.ref A.a_bearer_of)
  F_bearer_of : Fun K "bearer_of" "bearer_of" s_bearer_of A.a_bearer_of A.d_bearer_of
  b_bearer_of : Binds K A.d_bearer_of ["row", "holder", "able", "protested"] []
  m_Lfeed : mg "_law_feed" = some (.ref A.a_Lfeed)
  F_Lfeed : Fun K "_law_feed" "_law_feed" s_Lfeed A.a_Lfeed A.d_Lfeed
  b_Lfeed : Binds K A.d_Lfeed ["_law_script"] []
  m_Lname : mg "_law_name" = some (.ref A.a_Lname)
  F_Lname : Fun K "_law_name" "_law_name" s_Lname A.a_Lname A.d_Lname
  b_Lname : Binds K A.d_Lname ["_law_pick", "_law_k"] []
  m_Lreach : mg "_law_reach" = some (.ref A.a_Lreach)
  F_Lreach : Fun K "_law_reach" "_law_reach" s_Lreach A.a_Lreach A.d_Lreach
  b_Lreach : Binds K A.d_Lreach ["_law_row_here", "_law_house"] []
  m_Laskable : mg "_law_askable" = some (.ref A.a_Laskable)
  F_Laskable : Fun K "_law_askable" "_law_askable" s_Laskable A.a_Laskable A.d_Laskable
  b_Laskable : Binds K A.d_Laskable ["_law_row_here", "_law_holder", "_law_protested"] []
  m_Lrow : mg "_law_row" = some (.ref A.a_Lrow)
  F_Lrow : Fun K "_law_row" "_law_row" s_Lrow A.a_Lrow A.d_Lrow
  b_Lrow : Binds K A.d_Lrow ["_law_feed_here"] []
  m_Lable_names : mg "_law_able_names" = some (.ref A.a_Lable_names)
  F_Lable_names : Fun K "_law_able_names" "_law_able_names" s_Lable_names A.a_Lable_names A.d_Lable_names
  b_Lable_names : Binds K A.d_Lable_names ["_law_feed_here"] []
  m_Lend : mg "_law_end" = some (.ref A.a_Lend)
  F_Lend : Fun K "_law_end" "_law_end" s_Lend A.a_Lend A.d_Lend
  b_Lend : Binds K A.d_Lend ["_law_row_here", "_law_holder", "_law_able", "_law_protested", "_law_picks"] []
  m_Lwalked : mg "_law_walked" = some (.ref A.a_Lwalked)
  F_Lwalked : Fun K "_law_walked" "_law_walked" s_Lwalked A.a_Lwalked A.d_Lwalked
  b_Lwalked : Binds K A.d_Lwalked ["_law_row_here", "_law_holder", "_law_run"] []
  m_Law : mg "law" = some (.ref A.a_Law)
  F_Law : Fun K "law" "law" s_Law A.a_Law A.d_Law
  b_Law : Binds K A.d_Law ["_law_script"] []

local macro_rules | `(tactic| walk_at "arith") => `(tactic| first | omega | decide | (unfold CMul; omega) | (unfold CDiv; omega) | (unfold CPow; decide) | (refine ⟨?_, ?_⟩ <;> omega) | (simp; done) | (simp; omega))
local macro_rules | `(tactic| walk_at "wide") => `(tactic| exact ⟨by decide, by decide +kernel⟩)

section
variable {P : Program} {w : World} {K : PySem.W.Frag} {mg : Str → Option Value} {base : Heap} {A : Ad}
structure FeedOk (fs : List Int) : Prop where
  lo : 270 ≤ fs.length
  hi : fs.length ≤ 400
  el : ∀ x ∈ fs, 0 ≤ x ∧ x < 55440
def spFeed (K : PySem.W.Frag) : Sp := fun vs H Q _ => ∃ (G : Hp) (a : Addr) (ns : List Int), vs = [.ref a] ∧ Sb G H ∧ SqL K H a (ns.map V.int) ∧ ns.length ≤ 63 ∧
  ∀ p (fs : List Int) G' H', FeedOk fs → Gr [] G H G' H' → H p = none → G' p = none → H' p = some (.lst (fs.map V.int)) → Q (.ref p) H'
theorem ints_app {fs : List Int} {z : Int} : fs.map V.int ++ [V.int z] = (fs ++ [z]).map V.int := by simp
theorem el_app {fs : List Int} {z : Int} (h : ∀ x ∈ fs, 0 ≤ x ∧ x < 55440) (hz : 0 ≤ z ∧ z < 55440) : ∀ x ∈ fs ++ [z], 0 ≤ x ∧ x < 55440 := fun x hx => by
  rcases List.mem_append.mp hx with h1 | h1
  · exact h x h1
  · rw [List.mem_singleton.mp h1]; exact hz
theorem mod_ok (z : Int) : 0 ≤ z % 55440 ∧ z % 55440 < 55440 := ⟨Int.emod_nonneg _ (by decide), Int.emod_lt_of_pos _ (by decide)⟩
theorem abs_nn (z : Int) : 0 ≤ (if z < 0 then -z else z) := by split <;> omega
theorem ok_Lfeed (T : Txt K mg A) : FnOk P w K mg base CX0 1 A.a_Lfeed A.d_Lfeed ["_law_script"] (spFeed K) := by
  refine T.F_Lfeed.ok sc_Lfeed (fun vs H Q E h => ?_) (fun cdv A' outer s H vs Q E hr h => ?_)
  · obtain ⟨G, a, ns, rfl, _⟩ := h
    rfl
  · obtain ⟨G, a, ns, rfl, s0, hS, hlen, k⟩ := h
    refine ⟨_, (pss_cons (ps_set (i := 1) sc_Lfeed.nd rfl (Or.inl rfl) (pe_lst pa_nil))
      (pss_cons (ps_for PassesOwn.never rfl (pi_list (pv 0)) (pg_name (i := 2) sc_Lfeed.nd rfl (Or.inl rfl))
      (pss_one (ps_if (pt_cmpR op_lt (pe_callB (call_lenK (K := K)) (by rfl) T.b.len (by decide +kernel) (pa_cons (pv 1) pa_nil)) pe_int (nomark _))
      (pss_cons (ps_set (i := 3) sc_Lfeed.nd rfl (Or.inl rfl) (pe_callB call_abs (by rfl) T.b.abs (by decide +kernel) (pa_cons (pv 2) pa_nil)))
      (pss_one (ps_if (pt_cmpR op_ge (pv 3) (pe_op op_pow pe_int pe_int) (nomark _))
      (pss_one (ps_for PassesOwn.never rfl (pi_range1 (by rfl) T.b.range (pa_cons pe_int pa_nil)) (pg_name (i := 4) sc_Lfeed.nd rfl (Or.inl rfl))
      (pss_one (ps_if (pt_cmpR op_gt (pv 3) pe_int (nomark _))
      (pss_cons (ps_expr (pe_bm PySem.F.plainAttrs_list PySem.F.slot_list_append PySem.F.type_list_append mt_append (pv 1) (pa_cons (pe_op op_mod (pv 3) pe_int) pa_nil)))
      (pss_one (ps_set (i := 3) sc_Lfeed.nd rfl (Or.inl rfl) (pe_op op_fdivW (pv 3) pe_int))))
      pss_nil))))
      (pss_cons (ps_set (i := 5) sc_Lfeed.nd rfl (Or.inl rfl) (pe_op op_mod (pe_op op_add (pe_op op_mul (pe_op op_add (pe_op op_mul pe_int (pv 3)) (pe_callTy call_int1 (by rfl) T.b.int_ (by decide +kernel) (pa_cons (pe_cmpR op_lt (pv 2) pe_int (nomark _)) pa_nil))) pe_int) pe_int) pe_int))
      (pss_one (ps_for PassesOwn.never rfl (pi_range1 (by rfl) T.b.range (pa_cons pe_int pa_nil)) (pg_name (i := 4) sc_Lfeed.nd rfl (Or.inl rfl))
      (pss_cons (ps_set (i := 5) sc_Lfeed.nd rfl (Or.inl rfl) (pe_op op_mod (pe_op op_add (pe_op op_mul (pv 5) pe_int) pe_int) pe_int))
      (pss_one (ps_expr (pe_bm PySem.F.plainAttrs_list PySem.F.slot_list_append PySem.F.type_list_append mt_append (pv 1) (pa_cons (pe_op op_mod (pe_op op_fdiv (pv 5) pe_int) pe_int) pa_nil)))))))))))
      pss_nil)))
      (pss_cons (ps_set (i := 5) sc_Lfeed.nd rfl (Or.inl rfl) (pe_op op_add (pe_op op_add pe_int (pe_callB (call_lenK (K := K)) (by rfl) T.b.len (by decide +kernel) (pa_cons (pv 1) pa_nil))) (pe_callB (cr_sumK (K := K) rfl) (by rfl) T.b.sum (by decide +kernel) (pa_cons (pv 1) pa_nil))))
      (pss_cons (ps_for PassesOwn.never rfl (pi_range1 (by rfl) T.b.range (pa_cons pe_int pa_nil)) (pg_name (i := 4) sc_Lfeed.nd rfl (Or.inl rfl))
      (pss_one (ps_if (pt_cmpR op_lt (pe_callB (call_lenK (K := K)) (by rfl) T.b.len (by decide +kernel) (pa_cons (pv 1) pa_nil)) pe_int (nomark _))
      (pss_cons (ps_set (i := 5) sc_Lfeed.nd rfl (Or.inl rfl) (pe_op op_mod (pe_op op_add (pe_op op_mul (pv 5) pe_int) pe_int) pe_int))
      (pss_one (ps_expr (pe_bm PySem.F.plainAttrs_list PySem.F.slot_list_append PySem.F.type_list_append mt_append (pv 1) (pa_cons (pe_op op_mod (pe_op op_fdiv (pv 5) pe_int) pe_int) pa_nil)))))
      pss_nil)))
      (pss_one (ps_ret (pv 1))))))), ?_⟩
    refine q_asgM (ev_lst ea_nil (by walk_at "arith")) s0 fun l xs G1 H1 g1 h0 hn hl hx => ?_
    cases hx
    have hS1 : SqL K H1 a (ns.map V.int) := sq_gr g1 (by simp) hS
    have o1 : Ow G H G1 H1 l ([] : List V) := Ow.mk0 g1 hl hn
    refine ⟨_, rfl, a, rfl, ⟨_, hS1⟩, for_list (K := K) (a := a) (xs := ns.map V.int) (fun i σ' H' => ∃ (fs : List Int) (v2 v3 v4 v5 : Option V) (G' : Hp), σ' = [some (.ref a), some (.ref l), v2, v3, v4, v5] ∧ Ow G H G' H' l (fs.map V.int) ∧ fs.length ≤ 329 ∧ ∀ x ∈ fs, 0 ≤ x ∧ x < 55440)
      ⟨[], none, none, none, none, G1, rfl, o1, by simp, by simp⟩ (fun i σ' H' _ p => ?_) (fun i x σ' H' hx p => ?_) (fun σ' H' p => ?_)⟩
    · obtain ⟨fs, v2, v3, v4, v5, G', rfl, o, _⟩ := p
      exact o.sq h0 hS
    · obtain ⟨fs, v2, v3, v4, v5, G', rfl, hl_feed_here, hf, he⟩ := p
      obtain ⟨z, rfl⟩ : ∃ z, x = V.int z := by
        rw [List.getElem?_map] at hx
        cases e : ns[i]? with
        | none => rw [e] at hx; cases hx
        | some u => rw [e] at hx; exact ⟨u, (Option.some.inj hx).symm⟩
      have h_cell : ∀ G, Dx G (.int z) (.int z) := fun _ => .int z
      refine s_if (et_test (ev_op (ev_lenO rfl hl_feed_here.hl) ev_int rd_lt)) hl_feed_here.s (fun hb G2 H2 g2 => ?_) (fun hb G2 H2 g2 => ?_)
      · have hb := of_decide_eq_true hb
        rw [List.length_map] at hb
        replace hl_feed_here := hl_feed_here.step g2
        refine q_asg ((fun h_cell => (ev_cb (ea_cons (ev_var rfl h_cell) ea_nil) cd_abs)) (h_cell _)) hl_feed_here.s fun v G3 H3 g3 hv => ?_
        obtain rfl := hv.int_eq
        replace hl_feed_here := hl_feed_here.step g3
        have hz0 := abs_nn z
        generalize (if z < 0 then -z else z) = y at hz0 ⊢
        have h_left : ∀ G, Dx G (.int y) (.int y) := fun _ => .int y
        refine s_if ((fun h_left => (et_test (ev_op (ev_var rfl h_left) (ev_op ev_int ev_int (rd_pow (by walk_at "arith"))) rd_ge))) (h_left _)) hl_feed_here.s (fun hy G4 H4 g4 => ?_) (fun hy G4 H4 g4 => ?_)
        · replace hl_feed_here := hl_feed_here.step g4
          refine s_forR [l] (fun n σ' G' H' => ∃ (gs : List Int) (y : Int) (v4 : Option V), σ' = [some (.ref a), some (.ref l), some (.int z), some (.int y), v4, v5] ∧ Ow G H G' H' l (gs.map V.int) ∧ gs.length ≤ fs.length + n ∧ ∀ x ∈ gs, 0 ≤ x ∧ x < 55440)
            (ea_cons ev_int ea_nil) (by omega) hl_feed_here.s (fun G5 H5 g5 => ⟨fs, y, v4, rfl, hl_feed_here.step g5, by omega, he⟩) (fun G5 H5 g5 n σ' G' H' hn2 gg p => ?_) (fun σ' G' H' gg p => ?_)
          · obtain ⟨gs, y, v4, rfl, hl_feed_here, hg, he⟩ := p
            have h_left : ∀ G, Dx G (.int y) (.int y) := fun _ => .int y
            refine s_if ((fun h_left => (et_test (ev_op (ev_var rfl h_left) ev_int rd_gt))) (h_left _)) hl_feed_here.s (fun hy G6 H6 g6 => ?_) (fun hy G6 H6 g6 => ?_)
            · replace hl_feed_here' := hl_feed_here.step g6
              refine q_app' hl_feed_here' rfl ((fun h_left => (ev_op (ev_var rfl h_left) ev_int (rd_mod (by walk_at "arith")))) (h_left _)) (by rw [List.length_map]; omega) fun v G7 H7 hv g7 o7 => ?_
              obtain rfl := hv.int_eq
              rw [ints_app] at o7 ⊢
              refine s_asg ((fun h_left => (ev_op (ev_var rfl h_left) ev_int (rd_fdivW (by walk_at "wide")))) (h_left _)) o7.s fun v G8 H8 g8 hv => ?_
              obtain rfl := hv.int_eq
              refine ⟨G8, ?_, _, _, _, rfl, o7.step g8, by rw [List.length_append, List.length_singleton]; omega, el_app he (mod_ok y)⟩
              exact ((((gg.trans g6.any).trans g7.any).write (Or.inl (by simp)) o7.hn)).trans g8.any
            · exact ⟨G6, gg.trans g6.any, gs, y, _, rfl, hl_feed_here.step g6, by omega, he⟩
          · obtain ⟨gs, y, v4, rfl, o, hg, he⟩ := p
            exact ⟨gs, _, _, _, _, G', rfl, o, by have : (60 : Int).toNat = 60 := rfl; omega, he⟩
        · replace hl_feed_here := hl_feed_here.step g4
          have hy := of_decide_eq_false hy
          have hy1 : y < 1000000000000000000 := by
            have e : ((10 : Int) ^ (18 : Int).toNat) = 1000000000000000000 := by decide
            rw [e] at hy; omega
          refine q_asg ((fun h_left h_cell => (ev_op (ev_op (ev_op (ev_op (ev_op ev_int (ev_var rfl h_left) (rd_mul (by walk_at "arith"))) (ev_cb (ea_cons (ev_op (ev_var rfl h_cell) ev_int rd_lt) ea_nil) cd_intB) rd_add) ev_int (rd_mul (by walk_at "arith"))) ev_int rd_add) ev_int (rd_mod (by walk_at "arith")))) (h_left _) (h_cell _)) hl_feed_here.s fun v G5 H5 g5 hv => ?_
          obtain rfl := hv.int_eq
          replace hl_feed_here := hl_feed_here.step g5
          have hs0 : ∀ u : Int, 0 ≤ u % 2147483629 ∧ u % 2147483629 < 2147483647 := fun u => ⟨by omega, by omega⟩
          have hs1 := hs0 ((2 * y + (if decide (z < 0) then 1 else 0)) * 69621 + 11)
          generalize ((2 * y + (if decide (z < 0) then 1 else 0)) * 69621 + 11) % 2147483629 = sd at hs1 ⊢
          refine s_forR [l] (fun n σ' G' H' => ∃ (gs : List Int) (sd : Int) (v4 : Option V), σ' = [some (.ref a), some (.ref l), some (.int z), some (.int y), v4, some (.int sd)] ∧ (0 ≤ sd ∧ sd < 2147483647) ∧ Ow G H G' H' l (gs.map V.int) ∧ gs.length ≤ fs.length + n ∧ ∀ x ∈ gs, 0 ≤ x ∧ x < 55440)
            (ea_cons ev_int ea_nil) (by omega) hl_feed_here.s (fun G6 H6 g6 => ⟨fs, sd, v4, rfl, hs1, hl_feed_here.step g6, by omega, he⟩) (fun G6 H6 g6 n σ' G' H' hn2 gg p => ?_) (fun σ' G' H' gg p => ?_)
          · obtain ⟨gs, sd, v4, rfl, hs1, hl_feed_here, hg, he⟩ := p
            have h_seed : ∀ G, Dx G (.int sd) (.int sd) := fun _ => .int sd
            refine q_asg ((fun h_seed => (ev_op (ev_op (ev_op (ev_var rfl h_seed) ev_int (rd_mul (by walk_at "arith"))) ev_int rd_add) ev_int (rd_mod (by walk_at "arith")))) (h_seed _)) hl_feed_here.s fun v G7 H7 g7 hv => ?_
            obtain rfl := hv.int_eq
            have hl_feed_here' := hl_feed_here.step g7
            have hs2 : 0 ≤ (sd * 48271 + 7919) % 2147483647 ∧ (sd * 48271 + 7919) % 2147483647 < 2147483647 := by omega
            generalize (sd * 48271 + 7919) % 2147483647 = sd2 at hs2 ⊢
            have h_seed : ∀ G, Dx G (.int sd2) (.int sd2) := fun _ => .int sd2
            refine s_app' hl_feed_here' rfl ((fun h_seed => (ev_op (ev_op (ev_var rfl h_seed) ev_int (rd_fdiv (by walk_at "arith"))) ev_int (rd_mod (by walk_at "arith")))) (h_seed _)) (by rw [List.length_map]; omega) fun v G8 H8 hv g8 o8 => ?_
            obtain rfl := hv.int_eq
            rw [ints_app] at o8 ⊢
            refine ⟨G8, ?_, _, _, _, rfl, hs2, o8, by rw [List.length_append, List.length_singleton]; omega, el_app he (mod_ok _)⟩
            exact (((gg.trans g7.any).trans g8.any).write (Or.inl (by simp)) o8.hn)
          · obtain ⟨gs, sd, v4, rfl, _, o, hg, he⟩ := p
            exact ⟨gs, _, _, _, _, G', rfl, o, by have : (6 : Int).toNat = 6 := rfl; omega, he⟩
      · exact ⟨fs, _, _, _, _, G2, rfl, hl_feed_here.step g2, hf, he⟩
    · obtain ⟨fs, v2, v3, v4, v5, G', rfl, hl_feed_here, hf, he⟩ := p
      refine q_asg (ev_op (ev_op ev_int (ev_lenO rfl hl_feed_here.hl) rd_add) (ev_sumO rfl hl_feed_here.hl (Dxs.ints _)) rd_add) hl_feed_here.s fun v G2 H2 g2 hv => ?_
      obtain rfl := hv.int_eq
      replace hl_feed_here := hl_feed_here.step g2
      have hsum : ∀ fs : List Int, (∀ x ∈ fs, 0 ≤ x ∧ x < 55440) → 0 ≤ fs.sum ∧ fs.sum ≤ 55440 * (fs.length : Int) := by
        intro fs
        induction fs with
        | nil => intro _; simp
        | cons x r ih =>
          intro h
          have h1 := h x (by simp)
          have h2 := ih fun y hy => h y (by simp [hy])
          rw [List.sum_cons, List.length_cons]
          omega
      have hs1 := hsum fs he
      rw [List.length_map]
      have hs2 : 0 ≤ 271 + (fs.length : Int) + fs.sum ∧ 271 + (fs.length : Int) + fs.sum < 2147483647 := by omega
      generalize 271 + (fs.length : Int) + fs.sum = sd at hs2 ⊢
      refine q_forR [l] (fun n σ' G' H' => ∃ (gs : List Int) (sd : Int) (v4 : Option V), σ' = [some (.ref a), some (.ref l), v2, v3, v4, some (.int sd)] ∧ (0 ≤ sd ∧ sd < 2147483647) ∧ Ow G H G' H' l (gs.map V.int) ∧ (n ≤ gs.length ∧ gs.length ≤ 329) ∧ ∀ x ∈ gs, 0 ≤ x ∧ x < 55440)
        (ea_cons ev_int ea_nil) (by omega) hl_feed_here.s (fun G6 H6 g6 => ⟨fs, sd, v4, rfl, hs2, hl_feed_here.step g6, by omega, he⟩) (fun G6 H6 g6 n σ' G' H' hn2 gg p => ?_) (fun σ' G' H' gg p => ?_)
      · obtain ⟨gs, sd, v4, rfl, hs1, hl_feed_here, hg, he⟩ := p
        refine s_if (et_test (ev_op (ev_lenO rfl hl_feed_here.hl) ev_int rd_lt)) hl_feed_here.s (fun hb G7 H7 g7 => ?_) (fun hb G7 H7 g7 => ?_)
        · have hb := of_decide_eq_true hb
          rw [List.length_map] at hb
          have h_seed : ∀ G, Dx G (.int sd) (.int sd) := fun _ => .int sd
          have o7 := hl_feed_here.step g7
          refine q_asg ((fun h_seed => (ev_op (ev_op (ev_op (ev_var rfl h_seed) ev_int (rd_mul (by walk_at "arith"))) ev_int rd_add) ev_int (rd_mod (by walk_at "arith")))) (h_seed _)) o7.s fun v G8 H8 g8 hv => ?_
          obtain rfl := hv.int_eq
          have hs3 : 0 ≤ (sd * 48271 + 12345) % 2147483629 ∧ (sd * 48271 + 12345) % 2147483629 < 2147483647 := by omega
          generalize (sd * 48271 + 12345) % 2147483629 = sd2 at hs3 ⊢
          have h_seed : ∀ G, Dx G (.int sd2) (.int sd2) := fun _ => .int sd2
          refine s_app' (o7.step g8) rfl ((fun h_seed => (ev_op (ev_op (ev_var rfl h_seed) ev_int (rd_fdiv (by walk_at "arith"))) ev_int (rd_mod (by walk_at "arith")))) (h_seed _)) (by rw [List.length_map]; omega) fun v G9 H9 hv g9 o9 => ?_
          obtain rfl := hv.int_eq
          rw [ints_app] at o9 ⊢
          refine ⟨G9, ?_, _, _, _, rfl, hs3, o9, by rw [List.length_append, List.length_singleton]; omega, el_app he (mod_ok _)⟩
          exact ((((gg.trans g7.any).trans g8.any).trans g9.any).write (Or.inl (by simp)) o9.hn)
        · have hb := of_decide_eq_false hb
          rw [List.length_map] at hb
          exact ⟨G7, gg.trans g7.any, gs, sd, _, rfl, hs1, hl_feed_here.step g7, by omega, he⟩
      · obtain ⟨gs, sd, v4, rfl, _, o, hg, he⟩ := p
        refine ⟨.ref l, rfl, k l gs G' H' ⟨by have : (270 : Int).toNat = 270 := rfl; omega, by omega, he⟩ (o.g.drop h0) h0 o.hn o.hl⟩
theorem q_feed {K : PySem.W.Frag} {E : XK} {σ : L2.St} {H : Hp} {tz : TS} {D : Ends} {i j : Nat} {a : Addr} {ns : List Int} (hv : σ[i]? = some (some (.ref a))) (hS : SqL K H a (ns.map V.int)) (hlen : ns.length ≤ 63)
    (k : ∀ l fs G1 H1, FeedOk fs → Gr [] (fun _ => none) H G1 H1 → Dx G1 (.ref l) (.list (fs.map .int)) → tz D (σ.set j (some (.ref l))) H1) : tSeq (tAsg (tCall (spFeed K) [] E (tCons (tVar i) tNil)) (gName j)) tz D σ H :=
  ⟨.ref a, hv, (fun _ => none), a, ns, rfl, (fun _ _ e => nomatch e), hS, hlen, fun l fs _ H1 hok g1 h0 hn hl => k l fs _ H1 hok (g1.freeze hl hn h0) (.lst upd_same (Dxs.ints fs))⟩

/-! ### the mathematics of names and rows -/
theorem given_map {β : Type} (n : Nat) (v : Nat → β) : given n (fun _ => true) v = (List.range n).map v := by
  unfold given
  rw [List.filter_eq_self.mpr (fun _ _ => rfl)]
abbrev alpha : Str := "abcdefghijklmnopqrstuvwxyz"
abbrev mistral : Str := "mistral"
def words : List Str := ["ask", "bound", "in", "fair", "free", "none", "house", "a", "paid"]
def Sm (z : Str) : Prop := ∀ c ∈ z.cps.toList, c < 128
theorem Sm.ok {z : Str} (h : Sm z) : PyData.strOk z = true := by
  unfold PyData.strOk
  rw [Array.all_eq_true]
  intro i hi
  have := h z.cps[i] (by simp)
  exact decide_eq_true (by omega)
theorem Sm.app {y z : Str} (h : Sm y) (k : Sm z) : Sm (y ++ z) := fun c hc => by
  have e : (y ++ z).cps.toList = y.cps.toList ++ z.cps.toList := Array.toList_append
  rw [e] at hc
  rcases List.mem_append.mp hc with q | q
  · exact h c q
  · exact k c q
theorem Sm.cut {z : Str} {lo hi : Option Int} (h : Sm z) : Sm (cutS z lo hi) := fun c hc => by
  unfold cutS at hc
  exact h c (List.mem_of_mem_drop (List.mem_of_mem_take hc))
theorem atI_sign {z : Str} {i : Int} (h0 : 0 ≤ i) (h : i < z.length) : atI z.cps.toList i = some (z.cps.toList.getD i.toNat 0) := by
  obtain ⟨k, rfl⟩ : ∃ k : Nat, i = (k : Int) := ⟨i.toNat, by omega⟩
  have hk : k < z.cps.toList.length := by
    have : z.cps.toList.length = z.length := rfl
    omega
  refine atI_nat ?_
  show z.cps.toList[k]? = some (z.cps.toList.getD k 0)
  rw [List.getD_eq_getElem?_getD, List.getElem?_eq_getElem hk]; rfl
theorem atI_strs {zs : List Str} {i : Int} (h0 : 0 ≤ i) (h : i < zs.length) : atI (zs.map PyData.str) i = some (.str (zs.getD i.toNat default)) := by
  obtain ⟨k, rfl⟩ : ∃ k : Nat, i = (k : Int) := ⟨i.toNat, by omega⟩
  have hk : k < zs.length := by omega
  refine atI_nat ?_
  rw [List.getElem?_map, List.getElem?_eq_getElem hk]
  show some (PyData.str zs[k]) = some (PyData.str (zs.getD k default))
  rw [List.getD_eq_getElem?_getD, List.getElem?_eq_getElem hk]; rfl
theorem getD_of {α : Type} {xs : List α} {i : Nat} {d : α} {P : α → Prop} (h : ∀ x ∈ xs, P x) (hi : i < xs.length) : P (xs.getD i d) := by
  rw [List.getD_eq_getElem?_getD, List.getElem?_eq_getElem hi]
  exact h _ (List.getElem_mem hi)
def nmSign (p k : Int) : Str := ⟨#[alpha.cps.toList.getD ((p / 32 + 11 * k) % 26).toNat 0]⟩
def nmL (p k : Int) : List Str := [nmSign p k, cutS mistral none (some (p / 4 % 8)) ++ nmSign p k ++ cutS mistral (some (p / 4 % 8)) none, repS (nmSign p k) (1 + (p / 4 % 8 + 3 * k) % 8), words.getD ((p / 4 % 8 + k) % 9).toNat default]
def nm (p k : Int) : Str := (nmL p k).getD (p % 4).toNat default
theorem alpha_eq : alpha.cps.toList = [97, 98, 99, 100, 101, 102, 103, 104, 105, 106, 107, 108, 109, 110, 111, 112, 113, 114, 115, 116, 117, 118, 119, 120, 121, 122] := by decide +kernel
theorem alpha_len : alpha.cps.toList.length = 26 := by rw [alpha_eq]; rfl
theorem mistral_len : mistral.length = 7 := by decide +kernel
theorem cutS_len (z : Str) (lo hi : Option Int) : (cutS z lo hi).length ≤ z.length := by
  unfold cutS
  show ((z.cps.toList.drop _).take _).length ≤ z.cps.toList.length
  rw [List.length_take, List.length_drop]
  omega
theorem cut2_len (z : Str) (n : Nat) (h : n ≤ z.length) : (cutS z none (some (n : Int))).length + (cutS z (some (n : Int)) none).length = z.length := by
  unfold cutS
  show ((z.cps.toList.drop _).take _).length + ((z.cps.toList.drop _).take _).length = z.cps.toList.length
  have hz : z.cps.toList.length = z.length := rfl
  rw [HT.sIx_nat, HT.sIx_nat, HT.sIx_none, HT.sIx_none, List.length_take, List.length_drop, List.length_take, List.length_drop]
  omega
theorem nmSign_sm (p k : Int) : Sm (nmSign p k) := fun c hc => by
  have e : (nmSign p k).cps.toList = [alpha.cps.toList.getD ((p / 32 + 11 * k) % 26).toNat 0] := rfl
  rw [e, List.mem_singleton] at hc
  rw [hc]
  have go : ∀ c ∈ alpha.cps.toList, c < 128 := by rw [alpha_eq]; decide
  exact getD_of go (by rw [alpha_len]; omega)
theorem words_ok : ∀ z ∈ words, (z.length ≤ 8 ∧ z ≠ "nobody") ∧ z.cps.toList.all (fun c => decide (c < 128)) = true := by decide +kernel
theorem nobody_len : ("nobody" : Str).length = 6 := by decide +kernel
theorem nobody_cps : ("nobody" : Str).cps.toList = [110, 111, 98, 111, 100, 121] := by decide +kernel
structure NmOk (z : Str) : Prop where
  sm : Sm z
  len : z.length ≤ 8
  ne : z ≠ "nobody"
theorem nm_ok (p k : Int) : NmOk (nm p k) := by
  have hm : Sm mistral := by
    have : ∀ c ∈ mistral.cps.toList, c < 128 := by decide +kernel
    exact this
  have h1 : (nmSign p k).length = 1 := rfl
  have a0 : 0 ≤ p / 4 % 8 ∧ p / 4 % 8 < 8 := by omega
  refine getD_of (xs := nmL p k) (fun z hz => ?_) (by show (p % 4).toNat < 4; omega)
  unfold nmL at hz
  simp only [List.mem_cons, List.not_mem_nil, or_false] at hz
  rcases hz with rfl | rfl | rfl | rfl
  · exact ⟨nmSign_sm p k, by omega, fun e => by rw [e, nobody_len] at h1; cases h1⟩
  · obtain ⟨n, hn⟩ : ∃ n : Nat, p / 4 % 8 = (n : Int) := ⟨(p / 4 % 8).toNat, by omega⟩
    have hl : (cutS mistral none (some (p / 4 % 8)) ++ nmSign p k ++ cutS mistral (some (p / 4 % 8)) none).length = 8 := by
      have e : (cutS mistral none (some (p / 4 % 8)) ++ nmSign p k ++ cutS mistral (some (p / 4 % 8)) none).length = (cutS mistral none (some (p / 4 % 8))).length + (nmSign p k).length + (cutS mistral (some (p / 4 % 8)) none).length := by
        show ((cutS mistral none (some (p / 4 % 8))).cps ++ (nmSign p k).cps ++ (cutS mistral (some (p / 4 % 8)) none).cps).size = _
        rw [Array.size_append, Array.size_append]
        rfl
      have c2 := cut2_len mistral n (by rw [mistral_len]; omega)
      rw [mistral_len] at c2
      rw [e, h1, hn]
      omega
    exact ⟨(hm.cut.app (nmSign_sm p k)).app hm.cut, by omega, fun e => by rw [e, nobody_len] at hl; cases hl⟩
  · refine ⟨repS_mem (P := fun c => c < 128) (nmSign_sm p k), ?_, fun e => ?_⟩
    · rw [repS_len (by omega), h1]; omega
    · have hc : ∀ c ∈ (repS (nmSign p k) (1 + (p / 4 % 8 + 3 * k) % 8)).cps.toList, c = alpha.cps.toList.getD ((p / 32 + 11 * k) % 26).toNat 0 := repS_mem (P := fun c => c = alpha.cps.toList.getD ((p / 32 + 11 * k) % 26).toNat 0) (fun c hc => List.mem_singleton.mp hc)
      rw [e, nobody_cps] at hc
      have q1 := hc 110 (by simp)
      have q2 := hc 111 (by simp)
      omega
  · refine getD_of (P := NmOk) (fun z hz => ?_) (by show ((p / 4 % 8 + k) % 9).toNat < 9; omega)
    obtain ⟨⟨w1, w2⟩, w3⟩ := words_ok z hz
    exact ⟨fun c hc => of_decide_eq_true (List.all_eq_true.mp w3 c hc), w1, w2⟩
abbrev Rw := List (Str × Bool)
def encP (p : Str × Bool) : PyData := .tuple [.str p.1, .bool p.2]
def encR (r : Rw) : List PyData := r.map encP
def nth (fs : List Int) (i : Int) : Int := fs.getD i.toNat 0
def rowAt (fs : List Int) (k : Nat) : Str × Bool := (nm (nth fs 2) (nth fs (4 + k) % (1 + nth fs 0 % 9)), decide (0 < nth fs (13 + k) % 4))
def rowM (fs : List Int) : Rw := (List.range (2 + nth fs 3 % 7).toNat).map (rowAt fs)
theorem nth_ok {fs : List Int} (h : FeedOk fs) {i : Int} (h0 : 0 ≤ i) (hi : i < 270) : 0 ≤ nth fs i ∧ nth fs i < 55440 := getD_of (P := fun x => 0 ≤ x ∧ x < 55440) h.el (by have := h.lo; omega)
structure RowOk (r : Rw) : Prop where
  lo : 2 ≤ r.length
  hi : r.length ≤ 8
  nm : ∀ p ∈ r, NmOk p.1
theorem rowM_ok {fs : List Int} : RowOk (rowM fs) := by
  have hl : (rowM fs).length = (2 + nth fs 3 % 7).toNat := by unfold rowM; rw [List.length_map, List.length_range]
  refine ⟨by rw [hl]; omega, by rw [hl]; omega, fun p hp => ?_⟩
  unfold rowM at hp
  obtain ⟨k, _, rfl⟩ := List.mem_map.mp hp
  exact nm_ok _ _
theorem atI_feed {fs : List Int} (h : FeedOk fs) {i : Int} (h0 : 0 ≤ i) (hi : i < 270) : atI (fs.map PyData.int) i = some (.int (nth fs i)) := atI_int h0 (by have := h.lo; omega)
theorem atI_row {r : Rw} {i : Nat} {p : Str × Bool} (h : r[i]? = some p) : atI (encR r) (i : Int) = some (encP p) := atI_nat (by unfold encR; rw [List.getElem?_map, h]; rfl)
theorem encR_get {r : Rw} {i : Nat} {d : PyData} (h : (encR r)[i]? = some d) : ∃ p, r[i]? = some p ∧ d = encP p := by
  unfold encR at h
  rw [List.getElem?_map] at h
  cases e : r[i]? with
  | none => rw [e] at h; cases h
  | some p => rw [e] at h; exact ⟨p, rfl, (Option.some.inj h).symm⟩
theorem shaped_p {p : Str × Bool} (h : NmOk p.1) : SeqAt.shaped (encP p) = true := by
  have hc : PyData.strOk p.1 = true := h.sm.ok
  unfold SeqAt.shaped encP
  simp [PyData.canLay0, PyData.canLayAll0, hc, PyData.depth, PyData.depthAll]
theorem eqv_p {p q : Str × Bool} : PyData.eqv (encP p) (encP q) = (decide (p.1 = q.1) && decide (p.2 = q.2)) := by
  unfold encP
  obtain ⟨a, b⟩ := p
  obtain ⟨c, d⟩ := q
  cases b <;> cases d <;> simp [PyData.eqv, PyData.eqvAll] <;> rfl
theorem canLay_row {r : Rw} (h : ∀ p ∈ r, NmOk p.1) : PyData.canLayAll0 (encR r) = true := by
  induction r with
  | nil => rfl
  | cons p r ih =>
    have h1 : PyData.strOk p.1 = true := (h p (by simp)).sm.ok
    have h2 := ih fun q hq => h q (by simp [hq])
    show PyData.canLayAll0 (encP p :: encR r) = true
    rw [PyData.canLayAll0, h2]
    unfold encP
    simp [PyData.canLay0, PyData.canLayAll0, h1]
theorem depth_row {r : Rw} : PyData.depthAll (encR r) ≤ 4 := by
  induction r with
  | nil => show PyData.depthAll [] ≤ 4; unfold PyData.depthAll; omega
  | cons p r ih =>
    show PyData.depthAll (encP p :: encR r) ≤ 4
    unfold encP
    simp only [PyData.depthAll, PyData.depth]
    omega
theorem shaped_row {r : Rw} (h : ∀ p ∈ r, NmOk p.1) : SeqAt.shaped (.list (encR r)) = true := by
  unfold SeqAt.shaped
  have h1 := canLay_row h
  have h2 := depth_row (r := r)
  rw [Bool.and_eq_true]
  refine ⟨by rw [PyData.canLay0]; exact h1, decide_eq_true ?_⟩
  unfold PyData.depth
  omega
theorem eqv_row {r : Rw} (h : ∀ p ∈ r, NmOk p.1) : PyData.eqv (.list (encR r)) (.list (encR r)) = true := SeqAt.eqv_refl _ (by rw [PyData.canLay0]; exact canLay_row h)
def reachM (r : Rw) (h : Str) : Nat := r.findIdx fun p => p.2 && decide (p.1 = h)
theorem reachM_at {r : Rw} {h : Str} {n : Nat} {p : Str × Bool} (hp : r[n]? = some p) (h1 : ∀ j q, j < n → r[j]? = some q → (q.2 && decide (q.1 = h)) = false) (h2 : (p.2 && decide (p.1 = h)) = true) : reachM r h = n := by
  have hn : n < r.length := (List.getElem?_eq_some_iff.mp hp).1
  unfold reachM
  rw [List.findIdx_eq hn]
  refine ⟨?_, fun j hj => ?_⟩
  · have e : r[n] = p := (List.getElem?_eq_some_iff.mp hp).2
    rw [e]; exact h2
  · exact h1 j _ hj (List.getElem?_eq_getElem (by omega))
theorem reachM_end {r : Rw} {h : Str} (h1 : ∀ j q, j < r.length → r[j]? = some q → (q.2 && decide (q.1 = h)) = false) : reachM r h = r.length := by
  unfold reachM
  rw [List.findIdx_eq_length]
  intro x hx
  obtain ⟨j, hj, rfl⟩ := List.getElem_of_mem hx
  exact h1 j _ hj (List.getElem?_eq_getElem hj)
theorem reachM_le (r : Rw) (h : Str) : reachM r h ≤ r.length := List.findIdx_le_length
local macro_rules | `(tactic| walk_at "at") => `(tactic| first | exact atI_feed ‹FeedOk _› (by omega) (by omega) | exact atI_sign (by omega) (by first | omega | (refine Int.lt_of_lt_of_le (Int.emod_lt_of_pos _ (by decide)) (by decide +kernel))))
local macro_rules | `(tactic| walk_at "arith") => `(tactic| first | omega | decide | (unfold CMul; omega) | (unfold CDiv; omega) | (unfold CPow; decide) | (refine ⟨?_, ?_⟩ <;> omega) | decide +kernel | (simp; done) | (simp; omega))

abbrev spName : Sp := SpD (α := Int × Int) (fun x => [.int x.1, .int x.2]) (fun x => (0 ≤ x.1 ∧ x.1 < 55440) ∧ 0 ≤ x.2 ∧ x.2 < 100) (fun x => .str (nm x.1 x.2))
theorem ok_Lname (T : Txt K mg A) : FnOk P w K mg base CX0 1 A.a_Lname A.d_Lname ["_law_pick", "_law_k"] spName := by
  refine T.F_Lname.ok sc_Lname (fun vs H Q E h => ?_) (fun cdv A' outer s H vs Q E hr h => ?_)
  · obtain ⟨G, x, _, hx, _⟩ := h
    exact hx.len
  · obtain ⟨G, ⟨p, j⟩, s0, hx, ⟨hp, hj⟩, k⟩ := h
    obtain ⟨v0, v1, rfl, h_pick, h_k⟩ := dxs2 hx
    obtain rfl := h_pick.int_eq
    obtain rfl := h_k.int_eq
    have ip : ∀ G, Dx G (.int p) (.int p) := fun _ => .int _
    have ik : ∀ G, Dx G (.int j) (.int j) := fun _ => .int _
    simp only at hp hj
    refine ⟨_, (pss_cons (ps_set (i := 2) sc_Lname.nd rfl (Or.inl rfl) (pe_ix ix_str pe_str (pe_op op_mod (pe_op op_add (pe_op op_fdiv (pv 0) pe_int) (pe_op op_mul pe_int (pv 1))) pe_int) (fun _ _ => rfl)))
      (pss_cons (ps_set (i := 3) sc_Lname.nd rfl (Or.inl rfl) (pe_op op_mod (pe_op op_fdiv (pv 0) pe_int) pe_int))
      (pss_cons (ps_set (i := 4) sc_Lname.nd rfl (Or.inl rfl) (pe_lst (pa_cons pe_str (pa_cons pe_str (pa_cons pe_str (pa_cons pe_str (pa_cons pe_str (pa_cons pe_str (pa_cons pe_str (pa_cons pe_str (pa_cons pe_str pa_nil)))))))))))
      (pss_cons (ps_set (i := 5) sc_Lname.nd rfl (Or.inl rfl) (pe_lst (pa_cons (pv 2) (pa_cons (pe_op op_add_str (pe_op op_add_str (pe_slice sl_str pe_str po_none (po_some (pv 3))) (pv 2)) (pe_slice sl_str pe_str (po_some (pv 3)) po_none)) (pa_cons (pe_op op_repS (pv 2) (pe_op op_add pe_int (pe_op op_mod (pe_op op_add (pv 3) (pe_op op_mul pe_int (pv 1))) pe_int))) pa_nil)))))
      (pss_one (ps_ret (pe_ix (ix_listK (K := K)) (pe_op op_cat (pv 5) (pe_lst (pa_cons (pe_ix (ix_listK (K := K)) (pv 4) (pe_op op_mod (pe_op op_add (pv 3) (pv 1)) pe_int) (fun _ _ => rfl)) pa_nil))) (pe_op op_mod (pv 0) pe_int) (fun _ _ => rfl)))))))), ?_⟩
    refine q_asg (ev_op ev_str ((fun h_pick h_k => (ev_op (ev_op (ev_op (ev_var rfl h_pick) ev_int (rd_fdiv (by walk_at "arith"))) (ev_op ev_int (ev_var rfl h_k) (rd_mul (by walk_at "arith"))) rd_add) ev_int (rd_mod (by walk_at "arith")))) (ip _) (ik _)) (rd_ixS (z := alpha) (c := alpha.cps.toList.getD ((p / 32 + 11 * j) % 26).toNat 0) (by decide +kernel) (by walk_at "at"))) s0 fun v G1 H1 g1 hv => ?_
    obtain rfl := hv.str_eq
    refine q_asg ((fun h_pick => (ev_op (ev_op (ev_var rfl h_pick) ev_int (rd_fdiv (by walk_at "arith"))) ev_int (rd_mod (by walk_at "arith")))) (ip _)) g1.s fun v G2 H2 g2 hv => ?_
    obtain rfl := hv.int_eq
    refine q_asg ((ev_lst (ea_cons ev_str (ea_cons ev_str (ea_cons ev_str (ea_cons ev_str (ea_cons ev_str (ea_cons ev_str (ea_cons ev_str (ea_cons ev_str (ea_cons ev_str ea_nil))))))))) (by walk_at "arith"))).dat g2.s fun vw G3 H3 g3 h_words => ?_
    have sg : ∀ G, Dx G (.str (nmSign p j)) (.str (nmSign p j)) := fun _ => .str _
    have ia : ∀ G, Dx G (.int (p / 4 % 8)) (.int (p / 4 % 8)) := fun _ => .int _
    have l1 : (nmSign p j).length = 1 := rfl
    have c1 := cutS_len mistral none (some (p / 4 % 8))
    have c2 := cutS_len mistral (some (p / 4 % 8)) none
    rw [mistral_len] at c1 c2
    have c3 : (cutS mistral none (some (p / 4 % 8)) ++ nmSign p j).length = (cutS mistral none (some (p / 4 % 8))).length + 1 := by
      show ((cutS mistral none (some (p / 4 % 8))).cps ++ (nmSign p j).cps).size = _
      rw [Array.size_append]; rfl
    refine q_asg (ev_lst (ea_cons (ev_var rfl (sg _)) (ea_cons (ev_op (ev_op (ev_slS (z := mistral) ev_str eo_none (eo_some (ev_var rfl (ia _))) (by decide +kernel)) (ev_var rfl (sg _)) (rd_addS (by omega))) (ev_slS (z := mistral) ev_str (eo_some (ev_var rfl (ia _))) eo_none (by decide +kernel)) (rd_addS (by omega)))
      (ea_cons (ev_op (ev_var rfl (sg _)) ((fun h_k h_at => (ev_op ev_int (ev_op (ev_op (ev_var rfl h_at) (ev_op ev_int (ev_var rfl h_k) (rd_mul (by walk_at "arith"))) rd_add) ev_int (rd_mod (by walk_at "arith"))) rd_add)) (ik _) (ia _)) (rd_repS (by omega))) ea_nil))) (by show 3 ≤ 100000; decide)).dat g3.s fun vs G4 H4 g4 h_some => ?_
    have h_words := h_words.mono g4.g
    refine s_ret (ev_op (ev_opM (ev_var rfl h_some) (ev_lst (ea_cons (ev_op (ev_var rfl h_words) ((fun h_k h_at => (ev_op (ev_op (ev_var rfl h_at) (ev_var rfl h_k) rd_add) ev_int (rd_mod (by walk_at "arith")))) (ik _) (ia _)) (rd_ixL (atI_strs (zs := words) (by omega) (by show _ < (9 : Int); omega)))) ea_nil) (by show 1 ≤ 100000; decide)).dat (rd_cat (by show 3 + 1 ≤ 100000; decide))).dat
      ((fun h_pick => (ev_op (ev_var rfl h_pick) ev_int (rd_mod (by walk_at "arith")))) (ip _)) (rd_ixL (atI_strs (zs := nmL p j) (by omega) (by show _ < (4 : Int); omega)))) g4.s fun v G5 H5 g5 hv => k v G5 H5 (g1.trans (g2.trans (g3.trans (g4.trans g5)))) hv

abbrev spRow : Sp := SpM (α := List Int) (fun fs => [.list (fs.map .int)]) FeedOk (fun fs => encR (rowM fs))
theorem ok_Lrow (T : Txt K mg A) : FnOk P w K mg base CX0 2 A.a_Lrow A.d_Lrow ["_law_feed_here"] spRow := by
  have G_Lname := ok_Lname (P := P) (w := w) (base := base) T
  refine T.F_Lrow.ok sc_Lrow (fun vs H Q E h => ?_) (fun cdv A' outer s H vs Q E hr h => ?_)
  · obtain ⟨G, x, _, hx, _⟩ := h
    exact hx.len
  · obtain ⟨G, fs, s0, hx, hok, k⟩ := h
    obtain ⟨v0, rfl, h_feed_here⟩ := dxs1 hx
    refine ⟨_, (pss_cons (ps_set (i := 1) sc_Lrow.nd rfl (Or.inl rfl) (pe_op op_add pe_int (pe_op op_mod (pe_ix (ix_listK (K := K)) (pv 0) pe_int (fun _ _ => rfl)) pe_int)))
      (pss_cons (ps_set (i := 2) sc_Lrow.nd rfl (Or.inl rfl) (pe_lst pa_nil))
      (pss_cons (ps_for PassesOwn.never rfl (pi_range1 (by rfl) T.b.range (pa_cons (pe_op op_add pe_int (pe_op op_mod (pe_ix (ix_listK (K := K)) (pv 0) pe_int (fun _ _ => rfl)) pe_int)) pa_nil)) (pg_name (i := 3) sc_Lrow.nd rfl (Or.inl rfl))
      (pss_one (ps_expr (pe_bm PySem.F.plainAttrs_list PySem.F.slot_list_append PySem.F.type_list_append mt_append (pv 2) (pa_cons (pe_tup (pa_cons (pe_call G_Lname (hr.mono (by omega)) (by rfl) T.m_Lname T.F_Lname.kp T.b_Lname .nil pass0 (pa_cons (pe_ix (ix_listK (K := K)) (pv 0) pe_int (fun _ _ => rfl)) (pa_cons (pe_op op_mod (pe_ix (ix_listK (K := K)) (pv 0) (pe_op op_add pe_int (pv 3)) (fun _ _ => rfl)) (pv 1)) pa_nil))) (pa_cons (pe_cmpR op_gt (pe_op op_mod (pe_ix (ix_listK (K := K)) (pv 0) (pe_op op_add pe_int (pv 3)) (fun _ _ => rfl)) pe_int) pe_int (nomark _)) pa_nil))) pa_nil)))))
      (pss_one (ps_ret (pv 2)))))), ?_⟩
    refine q_asg (ev_op ev_int (ev_op (ev_op (ev_var rfl h_feed_here) ev_int (rd_ixL (by walk_at "at"))) ev_int (rd_mod (by walk_at "arith"))) rd_add) s0 fun v G1 H1 g1 hv => ?_
    obtain rfl := hv.int_eq
    have h_feed_here := h_feed_here.mono g1.g
    refine q_asgM (ev_lst ea_nil (by walk_at "arith")) g1.s fun l xs G2 H2 g2 h0 hn hl hx => ?_
    cases hx
    have h_feed_here := h_feed_here.mono g2.g
    have o2 : Ow G1 H1 G2 H2 l [] := Ow.mk0 g2 hl hn
    have im : ∀ G, Dx G (.int (1 + nth fs 0 % 9)) (.int (1 + nth fs 0 % 9)) := fun _ => .int _
    refine q_forR [l] (fun n σ' G' H' => ∃ (xs : List V) (v3 : Option V), σ' = [some v0, some (.int (1 + nth fs 0 % 9)), some (.ref l), v3] ∧ Ow G1 H1 G' H' l xs ∧ Dxs G' xs (encR ((List.range n).map (rowAt fs))))
      (ea_cons (ev_op ev_int (ev_op (ev_op (ev_var rfl h_feed_here) ev_int (rd_ixL (by walk_at "at"))) ev_int (rd_mod (by walk_at "arith"))) rd_add) ea_nil) (by omega) o2.s (fun G3 H3 g3 => ⟨[], none, rfl, o2.step g3, .nil⟩) (fun G3 H3 g3 n σ' G' H' hn2 gg p => ?_) (fun σ' G' H' gg p => ?_)
    · obtain ⟨xs, v3, rfl, o, dx⟩ := p
      have h_feed_here := h_feed_here.mono (g3.any.trans gg).g
      have h_k : Dx G' (.int (n : Int)) (.int (n : Int)) := .int _
      have hn7 : (n : Int) < 9 := by omega
      have hmod : ∀ u : Int, 0 ≤ u % (1 + nth fs 0 % 9) ∧ u % (1 + nth fs 0 % 9) < 100 := fun u => by
        have h1 := Int.emod_nonneg u (show 1 + nth fs 0 % 9 ≠ 0 by omega)
        have h2 := Int.emod_lt_of_pos u (show 0 < 1 + nth fs 0 % 9 by omega)
        omega
      refine s_app' o rfl (ev_tup (ea_cons (ev_call (nth fs 2, nth fs (4 + (n : Int)) % (1 + nth fs 0 % 9)) (ea_cons (ev_op (ev_var rfl h_feed_here) ev_int (rd_ixL (by walk_at "at"))) (ea_cons ((fun h_many => (ev_op (ev_op (ev_var rfl h_feed_here) (ev_op ev_int (ev_var rfl h_k) rd_add) (rd_ixL (by walk_at "at"))) (ev_var rfl h_many) (rd_mod (by walk_at "arith")))) (im _)) ea_nil)) ⟨nth_ok hok (by omega) (by omega), hmod _⟩)
        (ea_cons (ev_op (ev_op (ev_op (ev_var rfl h_feed_here) (ev_op ev_int (ev_var rfl h_k) rd_add) (rd_ixL (by walk_at "at"))) ev_int (rd_mod (by walk_at "arith"))) ev_int rd_gt) ea_nil)) (by show 2 ≤ 100000; decide)) (by rw [dx.len]; unfold encR; rw [List.length_map, List.length_map, List.length_range]; omega) fun v G4 H4 hv g4 o4 => ?_
      refine ⟨G4, (gg.trans g4.any).write (Or.inl (by simp)) o4.hn, _, _, rfl, o4, ?_⟩
      rw [List.range_succ, List.map_append]
      unfold encR
      rw [List.map_append]
      exact (dx.mono g4.g).app (Dxs.one hv)
    · obtain ⟨xs, v3, rfl, o, dx⟩ := p
      exact ⟨.ref l, rfl, k l xs G' H' (g1.trans (o.g.drop h0)) (g1.free h0) o.hn o.hl dx⟩

abbrev spReach : Sp := SpD (α := Rw × Str) (fun x => [.list (encR x.1), .str x.2]) (fun x => (∀ p ∈ x.1, NmOk p.1) ∧ x.1.length ≤ 1000 ∧ Sm x.2) (fun x => .int (reachM x.1 x.2))
theorem ok_reach (T : Txt K mg A) : FnOk P w K mg base CX0 1 A.a_reach A.d_reach ["row", "house"] spReach := by
  refine T.F_reach.ok sc_reach (fun vs H Q E h => ?_) (fun cdv A' outer s H vs Q E hr h => ?_)
  · obtain ⟨G, x, _, hx, _⟩ := h
    exact hx.len
  · obtain ⟨G, ⟨r, hh⟩, s0, hx, ⟨hnm, hlen, hsm⟩, k⟩ := h
    obtain ⟨v0, v1, rfl, h_row, h_house⟩ := dxs2 hx
    refine ⟨_, (pss_cons (ps_for PassesOwn.never rfl (pi_enum (by rfl) T.b.enumerate (pa_cons (pv 0) pa_nil)) (pg_tup (by rfl) (pgs_cons (pg_name (i := 2) sc_reach.nd rfl (Or.inl rfl)) (pgs_cons (pg_tup (by rfl) (pgs_cons (pg_name (i := 3) sc_reach.nd rfl (Or.inl rfl)) (pgs_cons (pg_name (i := 4) sc_reach.nd rfl (Or.inl rfl)) pgs_nil))) pgs_nil)))
      (pss_one (ps_if (PW.pt (pw_and (pt_val (pv 4)) (pw_and1 (pt_cmpR op_eq (pv 3) (pv 1) (nomark _)))))
      (pss_one (ps_ret (pv 2)))
      pss_nil)))
      (pss_one (ps_ret (pe_callB (call_lenK (K := K)) (by rfl) T.b.len (by decide +kernel) (pa_cons (pv 0) pa_nil))))), ?_⟩
    refine q_forE [] (fun n σ' G' H' => ∃ (v2 v3 v4 : Option V), σ' = [some v0, some v1, v2, v3, v4] ∧ ∀ j q, j < n → r[j]? = some q → (q.2 && decide (q.1 = hh)) = false)
      (ea_cons (ev_var rfl h_row) ea_nil) s0 (fun G1 H1 g1 => ⟨none, none, none, rfl, fun j q hj => absurd hj (Nat.not_lt_zero _)⟩) (fun G1 H1 g1 n d v σ' G' H' G2 H2 hd gg p g2 hv => ?_) (fun σ' G' H' gg p => ?_)
    · obtain ⟨v2, v3, v4, rfl, hp⟩ := p
      obtain ⟨q, hq, rfl⟩ := encR_get hd
      refine g_n_nn hv g2.s fun u1 u2 u3 k1 k2 k3 => ?_
      obtain rfl := k1.int_eq
      have h_house := h_house.mono ((g1.trans gg).trans g2).g
      refine s_if (evt_is (c := q.2 && decide (q.1 = hh)) ((fun h_bound h_signer => (et_and (et_B (ev_var rfl h_bound)) (fun _ => (et_test (ev_op (ev_var rfl h_signer) (ev_var rfl h_house) rd_eqS))))) k3 k2) rfl) g2.s (fun hb G3 H3 g3 => ?_) (fun hb G3 H3 g3 => ?_)
      · have e := reachM_at hq hp hb
        exact s_ret (ev_var rfl (Dx.int (n : Int))) g3.s fun v G4 H4 g4 hv => k v G4 H4 ((((g1.trans gg).trans g2).trans g3).trans g4) (by show Dx G4 v (.int (reachM r hh)); rw [e]; exact hv)
      · refine ⟨G3, (gg.trans g2).trans g3, _, _, _, rfl, fun j q' hj hq' => ?_⟩
        by_cases hjn : j < n
        · exact hp j q' hjn hq'
        · have : j = n := by omega
          subst this
          rw [hq] at hq'; cases hq'; exact hb
    · obtain ⟨v2, v3, v4, rfl, hp⟩ := p
      have el : (encR r).length = r.length := by unfold encR; rw [List.length_map]
      rw [el] at hp
      have h_row := h_row.mono gg.g
      have e := reachM_end hp
      refine s_ret (ev_cb (ea_cons (ev_var rfl h_row) ea_nil) cd_lenL) gg.s fun v G4 H4 g4 hv => k v G4 H4 (gg.trans g4) ?_
      show Dx G4 v (.int (reachM r hh))
      rw [e]; rw [el] at hv; exact hv

theorem ok_Lreach (T : Txt K mg A) : FnOk P w K mg base CX0 1 A.a_Lreach A.d_Lreach ["_law_row_here", "_law_house"] spReach := by
  refine T.F_Lreach.ok sc_Lreach (fun vs H Q E h => ?_) (fun cdv A' outer s H vs Q E hr h => ?_)
  · obtain ⟨G, x, _, hx, _⟩ := h
    exact hx.len
  · obtain ⟨G, ⟨r, hh⟩, s0, hx, ⟨hnm, hlen, hsm⟩, k⟩ := h
    obtain ⟨v0, v1, rfl, h_row_here, h_house⟩ := dxs2 hx
    have el : (encR r).length = r.length := by unfold encR; rw [List.length_map]
    simp only at hnm hlen hsm
    refine ⟨_, (pss_cons (ps_for PassesOwn.never rfl (pi_range1 (by rfl) T.b.range (pa_cons (pe_callB (call_lenK (K := K)) (by rfl) T.b.len (by decide +kernel) (pa_cons (pv 0) pa_nil)) pa_nil)) (pg_name (i := 2) sc_Lreach.nd rfl (Or.inl rfl))
      (pss_one (ps_if (pt_cmpR (op_eqDK (K := K) hr.units) (pe_ix (ix_listK (K := K)) (pv 0) (pv 2) (fun _ _ => rfl)) (pe_tup (pa_cons (pv 1) (pa_cons pe_bl pa_nil))) (nomark _))
      (pss_one (ps_ret (pv 2)))
      pss_nil)))
      (pss_one (ps_ret (pe_callB (call_lenK (K := K)) (by rfl) T.b.len (by decide +kernel) (pa_cons (pv 0) pa_nil))))), ?_⟩
    refine q_forR [] (fun n σ' G' H' => ∃ (v2 : Option V), σ' = [some v0, some v1, v2] ∧ ∀ j q, j < n → r[j]? = some q → (q.2 && decide (q.1 = hh)) = false)
      (ea_cons (ev_cb (ea_cons (ev_var rfl h_row_here) ea_nil) cd_lenL) ea_nil) (by rw [el]; omega) s0 (fun G1 H1 g1 => ⟨none, rfl, fun j q hj => absurd hj (Nat.not_lt_zero _)⟩) (fun G1 H1 g1 n σ' G' H' hn gg p => ?_) (fun σ' G' H' gg p => ?_)
    · obtain ⟨v2, rfl, hp⟩ := p
      rw [el] at hn
      have hn' : n < r.length := by omega
      have hq : r[n]? = some r[n] := List.getElem?_eq_getElem hn'
      have hmem : r[n] ∈ r := List.getElem_mem hn'
      generalize r[n] = q at hq hmem
      have h_row_here := h_row_here.mono (g1.trans gg).g
      have h_house := h_house.mono (g1.trans gg).g
      have hb' : PyData.eqv (encP q) (encP (hh, true)) = (q.2 && decide (q.1 = hh)) := by
        rw [eqv_p, Bool.and_comm]
        cases q.2 <;> rfl
      have hsh : SeqAt.shaped (encP (hh, true)) = true := by
        have hc : PyData.strOk hh = true := hsm.ok
        unfold SeqAt.shaped encP
        simp [PyData.canLay0, PyData.canLayAll0, hc, PyData.depth, PyData.depthAll]
      refine s_if (evt_is (c := q.2 && decide (q.1 = hh)) (et_test (ev_op (ev_op (ev_var rfl h_row_here) (ev_var rfl (Dx.int (n : Int))) (rd_ixL (atI_row hq))) (ev_tup (ea_cons (ev_var rfl h_house) (ea_cons ev_bl ea_nil)) (by show 2 ≤ 100000; decide)) (rd_eqD (shaped_p (hnm q hmem)) hsh))) hb') gg.s (fun hb G3 H3 g3 => ?_) (fun hb G3 H3 g3 => ?_)
      · have e := reachM_at hq hp hb
        exact s_ret (ev_var rfl (Dx.int (n : Int))) g3.s fun v G4 H4 g4 hv => k v G4 H4 (((g1.trans gg).trans g3).trans g4) (by show Dx G4 v (.int (reachM r hh)); rw [e]; exact hv)
      · refine ⟨G3, gg.trans g3, _, rfl, fun j q' hj hq' => ?_⟩
        by_cases hjn : j < n
        · exact hp j q' hjn hq'
        · have : j = n := by omega
          subst this
          rw [hq] at hq'; cases hq'; exact hb
    · obtain ⟨v2, rfl, hp⟩ := p
      rw [el] at hp
      have h_row_here := h_row_here.mono gg.g
      have e := reachM_end (h := hh) (fun j q hj => hp j q (by omega))
      refine s_ret (ev_cb (ea_cons (ev_var rfl h_row_here) ea_nil) cd_lenL) gg.s fun v G4 H4 g4 hv => k v G4 H4 (gg.trans g4) ?_
      show Dx G4 v (.int (reachM r hh))
      rw [e]; rw [el] at hv; exact hv

def bnd (r : Rw) (i : Nat) : Bool := (r.getD i ("", false)).2
def askF (r : Rw) (p : Bool) (i : Nat) : Bool := bnd r i && (p || decide ((i : Int) = 0))
def askM (r : Rw) (h : Str) (p : Bool) : List PyData := given (reachM r h) (askF r p) fun i => .int (i : Int)
theorem getD_row {r : Rw} {i : Nat} (h : i < r.length) : r[i]? = some (r.getD i ("", false)) := by
  rw [List.getD_eq_getElem?_getD, List.getElem?_eq_getElem h]; rfl
theorem given_ext {β : Type} {n : Nat} {f g : Nat → Bool} {u v : Nat → β} (h : ∀ i, i < n → f i = g i) (k : ∀ i, i < n → u i = v i) : given n f u = given n g v := by
  unfold given
  have e : (List.range n).filter f = (List.range n).filter g := List.filter_congr fun i hi => h i (List.mem_range.mp hi)
  rw [e]
  exact List.map_congr_left fun i hi => k i (List.mem_range.mp (List.mem_filter.mp hi).1)
abbrev spAsk : Sp := SpM (α := Rw × Str × Bool) (fun x => [.list (encR x.1), .str x.2.1, .bool x.2.2]) (fun x => (∀ p ∈ x.1, NmOk p.1) ∧ x.1.length ≤ 1000 ∧ Sm x.2.1) (fun x => askM x.1 x.2.1 x.2.2)
theorem ok_askable (T : Txt K mg A) : FnOk P w K mg base CX0 2 A.a_askable A.d_askable ["row", "holder", "protested"] spAsk := by
  have G_reach := ok_reach (P := P) (w := w) (base := base) T
  refine T.F_askable.ok sc_askable (fun vs H Q E h => ?_) (fun cdv A' outer s H vs Q E hr h => ?_)
  · obtain ⟨G, x, _, hx, _⟩ := h
    exact hx.len
  · obtain ⟨G, ⟨r, hh, pr⟩, s0, hx, hpre, k⟩ := h
    obtain ⟨v0, v1, v2, rfl, h_row, h_holder, h_protested⟩ := dxs3 hx
    simp only at hpre
    refine ⟨_, (pss_one (ps_ret (pe_lc (own := [("place", 3)]) (g := gName 3) rfl sc_askable.nd (pi_range1 (by rfl) T.b.range (pa_cons (pe_call G_reach (hr.mono (by omega)) (by rfl) T.m_reach T.F_reach.kp T.b_reach .nil pass0 (pa_cons (pv 0) (pa_cons (pv 1) pa_nil))) pa_nil)) (blkOk_by (own := [("place", 3)]) (N := N_askable) (sc := defScope s_askable) (by decide +kernel)) (fun _ _ _ _ _ => pg_name (i := 3) sc_askable.nd rfl (Or.inl rfl)) (fun _ _ _ _ _ => pts_one (PW.pt (pw_and (pt_val (pe_ix (ix_tupK (K := K)) (pe_ix (ix_listK (K := K)) (pv 0) (pv 3) (fun _ _ => rfl)) pe_int (fun _ _ => rfl))) (pw_and1 (PW.pt (pw_or (pt_val (pv 2)) (pw_or1 (pt_cmpR op_eq (pv 3) pe_int (nomark _))))))))) (fun _ _ _ _ _ => (pv 3))))), ?_⟩
    have hle := reachM_le r hh
    refine s_retM (ev_lcR (askF r pr) (fun i => .int (i : Int)) (ea_cons (ev_callE (d := .int ((reachM r hh : Nat) : Int)) (r, hh) (ea_cons (ev_var rfl h_row) (ea_cons (ev_var rfl h_holder) ea_nil)) hpre rfl) ea_nil) (by have := hpre.2.1; omega) (fun _ => rfl)
      (fun i hi => evt_is (et_and (et_B (ev_op (ev_op (ev_var rfl h_row) (ev_var rfl (Dx.int (i : Int))) (rd_ixL (atI_row (getD_row (show i < r.length by omega))))) ev_int (rd_ixT (atI_nat (j := 1) rfl))))
        (fun _ => (fun h_place => (et_or (et_B (ev_var rfl h_protested)) (fun _ => (et_test (ev_op (ev_var rfl h_place) ev_int rd_eqI))))) (Dx.int (i : Int)))) rfl)
      (fun i hi hf => ev_var rfl (Dx.int _))) s0 fun p xs G1 H1 g1 h0 hn hl hx => k p xs G1 H1 g1 h0 hn hl hx

theorem cut_row {r : Rw} {n : Nat} (h : n ≤ r.length) : cutD (encR r) none (some (n : Int)) = encR (r.take n) := by
  have el : (encR r).length = r.length := by unfold encR; rw [List.length_map]
  unfold cutD
  rw [el, HT.sIx_none, HT.sIx_nat, Nat.min_eq_left h]
  unfold encR
  rw [List.drop_zero, Nat.sub_zero, List.map_take]
theorem bnd_take {r : Rw} {n i : Nat} (h : i < n) (hn : n ≤ r.length) : bnd (r.take n) i = bnd r i := by
  unfold bnd
  rw [List.getD_eq_getElem?_getD, List.getD_eq_getElem?_getD, List.getElem?_take_of_lt h]
theorem ok_Laskable (T : Txt K mg A) : FnOk P w K mg base CX0 2 A.a_Laskable A.d_Laskable ["_law_row_here", "_law_holder", "_law_protested"] spAsk := by
  have G_Lreach := ok_Lreach (P := P) (w := w) (base := base) T
  refine T.F_Laskable.ok sc_Laskable (fun vs H Q E h => ?_) (fun cdv A' outer s H vs Q E hr h => ?_)
  · obtain ⟨G, x, _, hx, _⟩ := h
    exact hx.len
  · obtain ⟨G, ⟨r, hh, pr⟩, s0, hx, hpre, k⟩ := h
    obtain ⟨v0, v1, v2, rfl, h_row_here, h_holder, h_protested⟩ := dxs3 hx
    simp only at hpre
    refine ⟨_, (pss_cons (ps_set (i := 3) sc_Laskable.nd rfl (Or.inr rfl) (pe_slice (sl_listK (K := K)) (pv 0) po_none (po_some (pe_call G_Lreach (hr.mono (by omega)) (by rfl) T.m_Lreach T.F_Lreach.kp T.b_Lreach .nil pass0 (pa_cons (pv 0) (pa_cons (pv 1) pa_nil))))))
      (pss_one (ps_ret (pe_lc (own := [("_law_place", 4)]) (g := gName 4) rfl sc_Laskable.nd (pi_range1 (by rfl) T.b.range (pa_cons (pe_callB (call_lenK (K := K)) (by rfl) T.b.len (by decide +kernel) (pa_cons (pv 3) pa_nil)) pa_nil)) (blkOk_by (own := [("_law_place", 4)]) (N := N_Laskable) (sc := defScope s_Laskable) (by decide +kernel)) (fun _ _ _ _ _ => pg_name (i := 4) sc_Laskable.nd rfl (Or.inl rfl)) (fun _ _ _ _ _ => pts_one (PW.pt (pw_and (pt_val (pe_ix (ix_tupK (K := K)) (pe_ix (ix_listK (K := K)) (pv 3) (pv 4) (fun _ _ => rfl)) pe_int (fun _ _ => rfl))) (pw_and1 (PW.pt (pw_or (pt_val (pv 2)) (pw_or1 (pt_cmpR op_eq (pv 4) pe_int (nomark _))))))))) (fun _ _ _ _ _ => (pv 4)))))), ?_⟩
    have hle := reachM_le r hh
    refine q_asg (EvM.dat (evm_is (ev_sl (ev_var rfl h_row_here) eo_none (eo_some (ev_callE (d := .int ((reachM r hh : Nat) : Int)) (r, hh) (ea_cons (ev_var rfl h_row_here) (ea_cons (ev_var rfl h_holder) ea_nil)) hpre rfl))) (cut_row (r := r) hle))) s0 fun v G1 H1 g1 h_before => ?_
    have h_protested := h_protested.mono g1.g
    have el : (encR (r.take (reachM r hh))).length = reachM r hh := by unfold encR; rw [List.length_map, List.length_take]; omega
    refine s_retM (evm_is (ev_lcR (askF (r.take (reachM r hh)) pr) (fun i => .int (i : Int)) (ea_cons (ev_cb (ea_cons (ev_var rfl h_before) ea_nil) cd_lenL) ea_nil) (by have := hpre.2.1; omega) (fun _ => rfl)
      (fun i hi => evt_is (et_and (et_B (ev_op (ev_op (ev_var rfl h_before) (ev_var rfl (Dx.int (i : Int))) (rd_ixL (atI_row (getD_row (show i < (r.take (reachM r hh)).length by rw [List.length_take]; omega))))) ev_int (rd_ixT (atI_nat (j := 1) rfl))))
        (fun _ => (fun h_place => (et_or (et_B (ev_var rfl h_protested)) (fun _ => (et_test (ev_op (ev_var rfl h_place) ev_int rd_eqI))))) (Dx.int (i : Int)))) rfl)
      (fun i hi hf => ev_var rfl (Dx.int _))) (es := askM r hh pr) (by
        rw [el]
        have e : ((reachM r hh : Nat) : Int).toNat = reachM r hh := by omega
        rw [e]
        unfold askM
        refine given_ext (fun i hi => ?_) fun i hi => rfl
        unfold askF
        rw [bnd_take hi hle])) g1.s fun p xs G2 H2 g2 h0 hn hl hx => k p xs G2 H2 (g1.trans g2) (g1.free h0) hn hl hx

def retM (r : Rw) (p : Nat) : Rw := if p = 0 then r else r.take (max p 2)
def honM (r : Rw) (p : Nat) : Rw := if p = 0 then [r.getD 0 ("", false), ((r.getD 1 ("", false)).1, false)] else r.take (p + 1)
theorem cut_row' {r : Rw} {n : Nat} {i : Int} (hi : i = (n : Int)) : cutD (encR r) none (some i) = encR (r.take n) := by
  subst hi
  have el : (encR r).length = r.length := by unfold encR; rw [List.length_map]
  unfold cutD
  rw [el, HT.sIx_none, HT.sIx_nat]
  unfold encR
  rw [List.drop_zero, Nat.sub_zero, ← List.map_take]
  congr 1
  by_cases h : n ≤ r.length
  · rw [Nat.min_eq_left h]
  · rw [Nat.min_eq_right (by omega), List.take_of_length_le (Nat.le_refl _), List.take_of_length_le (by omega)]
theorem getD_row2 {r : Rw} {i : Nat} (h : i < r.length) : r[i]? = some (r.getD i ("", false)) := by
  rw [List.getD_eq_getElem?_getD, List.getElem?_eq_getElem h]; rfl
abbrev spRet : Sp := SpM (α := Rw × Nat) (fun x => [.list (encR x.1), .int ((x.2 : Nat) : Int)]) (fun x => x.1.length ≤ 1000) (fun x => encR (retM x.1 x.2))
abbrev spHon : Sp := SpM (α := Rw × Nat) (fun x => [.list (encR x.1), .int ((x.2 : Nat) : Int)]) (fun x => 2 ≤ x.1.length ∧ x.1.length ≤ 1000) (fun x => encR (honM x.1 x.2))
theorem ok_returned (T : Txt K mg A) : FnOk P w K mg base CX0 1 A.a_returned A.d_returned ["row", "place"] spRet := by
  refine T.F_returned.ok sc_returned (fun vs H Q E h => ?_) (fun cdv A' outer s H vs Q E hr h => ?_)
  · obtain ⟨G, x, _, hx, _⟩ := h
    exact hx.len
  · obtain ⟨G, ⟨r, n⟩, s0, hx, hl, k⟩ := h
    obtain ⟨v0, v1, rfl, h_row, h_place⟩ := dxs2 hx
    simp only at hl k h_row h_place
    refine ⟨_, (pss_cons (ps_if (pt_cmpR op_eq (pv 1) pe_int (nomark _))
      (pss_one (ps_ret (pe_callTy (call_listK (K := K)) (by rfl) T.b.list (by decide +kernel) (pa_cons (pv 0) pa_nil))))
      pss_nil)
      (pss_one (ps_ret (pe_slice (sl_listK (K := K)) (pv 0) po_none (po_some (pe_callB (call_max2 rfl) (by rfl) T.b.max (by decide +kernel) (pa_cons (pv 1) (pa_cons (pe_glob (v := .int 2) (by rfl) T.g_FIRST_SIGNED ⟨_, rfl⟩) pa_nil)))))))), ?_⟩
    refine q_when (et_test (ev_op (ev_var rfl h_place) ev_int rd_eqI)) s0 (fun hb G1 H1 g1 => ?_) (fun hb G1 H1 g1 => ?_)
    · have h_row := h_row.mono g1.g
      have hn : n = 0 := by have := of_decide_eq_true hb; omega
      refine s_retM (ev_cbM (ea_cons (ev_var rfl h_row) ea_nil) cd_listL) g1.s fun p xs G2 H2 g2 h0 hn' hl hx => k p xs G2 H2 (g1.trans g2) (g1.free h0) hn' hl ?_
      unfold retM; rw [if_pos hn]; exact hx
    · have h_row := h_row.mono g1.g
      have h_place := h_place.mono g1.g
      have hn : ¬ n = 0 := by have := of_decide_eq_false hb; omega
      refine s_retM (evm_is (ev_sl (ev_var rfl h_row) eo_none (eo_some (ev_cb (ea_cons (ev_var rfl h_place) (ea_cons ev_int ea_nil)) cd_max2))) (cut_row' (r := r) (n := max n 2) (by split <;> omega))) g1.s fun p xs G2 H2 g2 h0 hn' hl hx => k p xs G2 H2 (g1.trans g2) (g1.free h0) hn' hl ?_
      unfold retM; rw [if_neg hn]; exact hx

/-! ### the mathematics of runs -/
def nmAt (r : Rw) (i : Nat) : Str := (r.getD i ("", false)).1
def askL (r : Rw) (h : Str) (p : Bool) : List Nat := (List.range (reachM r h)).filter (askF r p)
def payL (r : Rw) (h : Str) (ab : List Str) (p : Bool) : List Nat := (askL r h p).filter fun i => decide (nmAt r i ∈ ab)
def encI (ns : List Nat) : List PyData := ns.map fun i : Nat => .int (i : Int)
theorem askM_eq (r : Rw) (h : Str) (p : Bool) : askM r h p = encI (askL r h p) := rfl
theorem payL_mem {r : Rw} {h : Str} {ab : List Str} {p : Bool} {i : Nat} (hi : i ∈ payL r h ab p) : i < reachM r h ∧ bnd r i = true := by
  have h1 := (List.mem_filter.mp hi).1
  obtain ⟨h2, h3⟩ := List.mem_filter.mp h1
  unfold askF at h3
  rw [Bool.and_eq_true] at h3
  exact ⟨List.mem_range.mp h2, h3.1⟩
def runsM (ab : List Str) (p : Bool) : Nat → Rw → Str → List (List Nat)
  | 0, _, _ => [[]]
  | n + 1, r, h => if payL r h ab p = [] then [[]] else (payL r h ab p).flatMap fun i => (runsM ab p n (retM r i) (nmAt r i)).map (i :: ·)
theorem findIdx_le {r : Rw} {h : Str} {i : Nat} (hi : i < r.length) (hb : bnd r i = true) (hn : nmAt r i = h) : reachM r h ≤ i := by
  unfold reachM
  refine Nat.le_of_not_lt fun hlt => ?_
  have := List.not_of_lt_findIdx hlt
  have e : r.getD i ("", false) = r[i] := by rw [List.getD_eq_getElem?_getD, List.getElem?_eq_getElem hi]; rfl
  unfold bnd at hb
  unfold nmAt at hn
  rw [e] at hb hn
  rw [hb, hn] at this
  simp at this
theorem reach_next {r : Rw} {h : Str} {i : Nat} (hi : i < reachM r h) (hb : bnd r i = true) : reachM (retM r i) (nmAt r i) ≤ i := by
  have hl := reachM_le r h
  unfold retM
  split
  · rename_i h0
    subst h0
    exact findIdx_le (by omega) hb rfl
  · rename_i h0
    by_cases h1 : i = 1
    · subst h1
      have hl2 : 1 < (r.take (max 1 2)).length := by rw [List.length_take]; omega
      have eg : (r.take (max 1 2)).getD 1 ("", false) = r.getD 1 ("", false) := by
        rw [List.getD_eq_getElem?_getD, List.getD_eq_getElem?_getD, List.getElem?_take_of_lt (by omega)]
      refine findIdx_le hl2 ?_ ?_
      · unfold bnd; rw [eg]; exact hb
      · unfold nmAt; rw [eg]
    · have := reachM_le (r.take (max i 2)) (nmAt r i)
      rw [List.length_take] at this
      omega
theorem runsM_ne (ab : List Str) (p : Bool) : ∀ (n : Nat) (r : Rw) (h : Str), runsM ab p n r h ≠ []
  | 0, _, _ => by unfold runsM; simp
  | n + 1, r, h => by
    unfold runsM
    split
    · simp
    · rename_i hp
      cases e : payL r h ab p with
      | nil => exact absurd e hp
      | cons i is =>
        rw [List.flatMap_cons]
        have := runsM_ne ab p n (retM r i) (nmAt r i)
        intro hh
        have := (List.append_eq_nil_iff.mp hh).1
        exact absurd (List.map_eq_nil_iff.mp this) ‹_›
theorem sum_pow (φ : Nat → Bool) (F : Nat → Nat) (hF : ∀ i, φ i = true → F i ≤ 2 ^ i) : ∀ m : Nat, (∀ i, i < m → φ i = true → F i ≤ 2 ^ i) → (((List.range m).filter φ).map F).sum + 1 ≤ 2 ^ m
  | 0, _ => by simp
  | m + 1, h => by
    have ih := sum_pow φ F hF m fun i hi => h i (by omega)
    rw [List.range_succ, List.filter_append, List.map_append, List.sum_append, Nat.pow_succ]
    by_cases hm : φ m = true
    · have := h m (by omega) hm
      rw [List.filter_cons, if_pos hm]
      simp
      omega
    · rw [List.filter_cons, if_neg hm]
      simp
      omega
theorem flat_len {α β : Type} (L : List α) (F : α → List β) : (L.flatMap F).length = (L.map fun i => (F i).length).sum := by
  rw [List.length_flatMap]
theorem runsM_len (ab : List Str) (p : Bool) : ∀ (n : Nat) (r : Rw) (h : Str), (runsM ab p n r h).length ≤ 2 ^ reachM r h
  | 0, r, h => by unfold runsM; exact Nat.one_le_two_pow
  | n + 1, r, h => by
    unfold runsM
    split
    · exact Nat.one_le_two_pow
    · rw [flat_len]
      have e : payL r h ab p = (List.range (reachM r h)).filter (fun i => askF r p i && decide (nmAt r i ∈ ab)) := by
        unfold payL askL
        rw [List.filter_filter]
        congr 1
        funext i
        rw [Bool.and_comm]
      rw [e]
      have key : ∀ i, i < reachM r h → (askF r p i && decide (nmAt r i ∈ ab)) = true → ((runsM ab p n (retM r i) (nmAt r i)).map (i :: ·)).length ≤ 2 ^ i := fun i hi hp => by
        rw [List.length_map]
        rw [Bool.and_eq_true] at hp
        unfold askF at hp
        rw [Bool.and_eq_true] at hp
        exact Nat.le_trans (runsM_len ab p n _ _) (Nat.pow_le_pow_right (by decide) (reach_next hi hp.1.1))
      have go : ∀ m, m ≤ reachM r h → ((((List.range m).filter (fun i => askF r p i && decide (nmAt r i ∈ ab))).map fun i => ((runsM ab p n (retM r i) (nmAt r i)).map (i :: ·)).length)).sum + 1 ≤ 2 ^ m := by
        intro m
        induction m with
        | zero => intro _; simp
        | succ m ih =>
          intro hm
          have ih := ih (by omega)
          rw [List.range_succ, List.filter_append, List.map_append, List.sum_append, Nat.pow_succ]
          by_cases hq : (askF r p m && decide (nmAt r m ∈ ab)) = true
          · have := key m (by omega) hq
            rw [List.filter_cons, if_pos hq]
            simp only [List.filter_nil, List.map_cons, List.map_nil, List.sum_cons, List.sum_nil]
            omega
          · rw [List.filter_cons, if_neg hq]
            simp only [List.filter_nil, List.map_nil, List.sum_nil]
            omega
      have := go _ (Nat.le_refl _)
      omega
theorem runsM_run (ab : List Str) (p : Bool) : ∀ (n : Nat) (r : Rw) (h : Str) (u : List Nat), u ∈ runsM ab p n r h → u.length ≤ n
  | 0, _, _, u, hu => by
    unfold runsM at hu
    rw [List.mem_singleton.mp hu]; exact Nat.le_refl _
  | n + 1, r, h, u, hu => by
    unfold runsM at hu
    split at hu
    · rw [List.mem_singleton.mp hu]; exact Nat.zero_le _
    · obtain ⟨i, _, hi⟩ := List.mem_flatMap.mp hu
      obtain ⟨u', hu', rfl⟩ := List.mem_map.mp hi
      have := runsM_run ab p n _ _ u' hu'
      rw [List.length_cons]; omega
def encU (us : List (List Nat)) : List PyData := us.map fun u => .list (encI u)
structure PreR (n : Nat) (r : Rw) (h : Str) : Prop where
  nm : ∀ p ∈ r, NmOk p.1
  len : r.length ≤ 8
  sm : Sm h
  re : reachM r h ≤ n
theorem PreR.ask {n : Nat} {r : Rw} {h : Str} (x : PreR n r h) : (∀ p ∈ r, NmOk p.1) ∧ r.length ≤ 1000 ∧ Sm h := ⟨x.nm, by have := x.len; omega, x.sm⟩
theorem nmAt_ok {r : Rw} {i : Nat} (h : ∀ p ∈ r, NmOk p.1) (hi : i < r.length) : NmOk (nmAt r i) := h _ (by rw [List.getD_eq_getElem?_getD, List.getElem?_eq_getElem hi]; exact List.getElem_mem hi)
theorem PreR.next {n : Nat} {r : Rw} {h : Str} {ab : List Str} {p : Bool} {i : Nat} (x : PreR (n + 1) r h) (hi : i ∈ payL r h ab p) : PreR n (retM r i) (nmAt r i) := by
  obtain ⟨h1, h2⟩ := payL_mem hi
  have hl := reachM_le r h
  refine ⟨fun q hq => x.nm q ?_, ?_, (nmAt_ok x.nm (by omega)).sm, ?_⟩
  · unfold retM at hq
    split at hq
    · exact hq
    · exact List.mem_of_mem_take hq
  · have : (retM r i).length ≤ r.length := by
      unfold retM
      split
      · exact Nat.le_refl _
      · rw [List.length_take]; omega
    have := x.len
    omega
  · have := reach_next h1 h2
    have := x.re
    omega
theorem PreR.pow {n : Nat} {r : Rw} {h : Str} (x : PreR n r h) (ab : List Str) (p : Bool) (m : Nat) : (runsM ab p m r h).length ≤ 256 := by
  refine Nat.le_trans (runsM_len ab p m r h) ?_
  have : reachM r h ≤ 8 := Nat.le_trans (reachM_le r h) x.len
  exact Nat.le_trans (Nat.pow_le_pow_right (by decide) this) (by decide)
theorem run_len8 {ab : List Str} {p : Bool} : ∀ {n : Nat} {r : Rw} {h : Str} {u : List Nat}, PreR n r h → u ∈ runsM ab p n r h → u.length ≤ 100 := by
  have go : ∀ (n : Nat) (r : Rw) (h : Str) (u : List Nat), PreR n r h → u ∈ runsM ab p n r h → u.length ≤ reachM r h := by
    intro n
    induction n with
    | zero =>
      intro r h u _ hu
      unfold runsM at hu
      rw [List.mem_singleton.mp hu]; exact Nat.zero_le _
    | succ n ih =>
      intro r h u hp hu
      unfold runsM at hu
      split at hu
      · rw [List.mem_singleton.mp hu]; exact Nat.zero_le _
      · obtain ⟨i, hi, hu2⟩ := List.mem_flatMap.mp hu
        obtain ⟨u', hu', rfl⟩ := List.mem_map.mp hu2
        have h1 := ih _ _ u' (hp.next hi) hu'
        obtain ⟨h2, h3⟩ := payL_mem hi
        have h4 := reach_next h2 h3
        rw [List.length_cons]; omega
  intro n r h u hp hu
  have := go n r h u hp hu
  have := reachM_le r h
  have := hp.len
  omega

abbrev spPay : Sp := SpM (α := Rw × Str × List Str × Bool) (fun x => [.list (encR x.1), .str x.2.1, .list (x.2.2.1.map .str), .bool x.2.2.2]) (fun x => (∀ p ∈ x.1, NmOk p.1) ∧ x.1.length ≤ 1000 ∧ Sm x.2.1) (fun x => encI (payL x.1 x.2.1 x.2.2.1 x.2.2.2))
theorem encI_get {L : List Nat} {i : Nat} {d : PyData} (h : (encI L)[i]? = some d) : i < L.length ∧ d = .int ((L.getD i 0 : Nat) : Int) ∧ L.getD i 0 ∈ L := by
  unfold encI at h
  rw [List.getElem?_map] at h
  cases e : L[i]? with
  | none => rw [e] at h; cases h
  | some p =>
    rw [e] at h
    have hi : i < L.length := (List.getElem?_eq_some_iff.mp e).1
    have hd : L.getD i 0 = p := by rw [List.getD_eq_getElem?_getD, e]; rfl
    exact ⟨hi, by rw [hd]; exact (Option.some.inj h).symm, by rw [hd]; exact List.mem_of_getElem? e⟩
theorem encI_len (L : List Nat) : (encI L).length = L.length := List.length_map _
theorem ok_payable (T : Txt K mg A) : FnOk P w K mg base CX0 3 A.a_payable A.d_payable ["row", "holder", "able", "protested"] spPay := by
  have G_askable := ok_askable (P := P) (w := w) (base := base) T
  refine T.F_payable.ok sc_payable (fun vs H Q E h => ?_) (fun cdv A' outer s H vs Q E hr h => ?_)
  · obtain ⟨G, x, _, hx, _⟩ := h
    exact hx.len
  · obtain ⟨G, ⟨r, hh, ab, pr⟩, s0, hx, hpre, k⟩ := h
    obtain ⟨v0, v1, v2, v3, rfl, h_row, h_holder, h_able, h_protested⟩ := dxs4 hx
    simp only at hpre k h_row h_holder h_able h_protested
    have hal : (askL r hh pr).length ≤ 1000 := by
      have h1 := List.length_filter_le (askF r pr) (List.range (reachM r hh))
      rw [List.length_range] at h1
      have := reachM_le r hh
      unfold askL
      omega
    refine ⟨_, (pss_one (ps_ret (pe_lc (own := [("place", 4)]) (g := gName 4) rfl sc_payable.nd (pi_list (pe_call G_askable (hr.mono (by omega)) (by rfl) T.m_askable T.F_askable.kp T.b_askable .nil pass0 (pa_cons (pv 0) (pa_cons (pv 1) (pa_cons (pv 3) pa_nil))))) (blkOk_by (own := [("place", 4)]) (N := N_payable) (sc := defScope s_payable) (by decide +kernel)) (fun _ _ _ _ _ => pg_name (i := 4) sc_payable.nd rfl (Or.inl rfl)) (fun _ _ _ _ _ => pts_one (pt_cmpR (op_inK (K := K)) (pe_ix (ix_tupK (K := K)) (pe_ix (ix_listK (K := K)) (pv 0) (pv 4) (fun _ _ => rfl)) pe_int (fun _ _ => rfl)) (pv 2) rfl)) (fun _ _ _ _ _ => (pv 4))))), ?_⟩
    refine s_retM (evm_is (ev_lcLn (fun i => decide (nmAt r ((askL r hh pr).getD i 0) ∈ ab)) (fun i => .int (((askL r hh pr).getD i 0 : Nat) : Int)) (ds := encI (askL r hh pr))
      (EvM.dat (ev_callME (es := encI (askL r hh pr)) (r, hh, pr) (ea_cons (ev_var rfl h_row) (ea_cons (ev_var rfl h_holder) (ea_cons (ev_var rfl h_protested) ea_nil))) hpre rfl)) (by rw [encI_len]; omega) (fun _ => rfl)
      (fun i d x G1 H1 gg hd hx => by
        obtain ⟨hi, rfl, hm⟩ := encI_get hd
        have hlt : (askL r hh pr).getD i 0 < r.length := by
          have := List.mem_range.mp (List.mem_filter.mp hm).1
          have := reachM_le r hh
          omega
        exact et_test (ev_op (ev_op (ev_op (ev_var rfl (h_row.mono gg.g)) (ev_var rfl hx) (rd_ixL (atI_row (getD_row hlt)))) ev_int (rd_ixT (atI_nat (j := 0) rfl))) (ev_var rfl (h_able.mono gg.g)) rd_InL))
      (fun i d x G1 H1 gg hd hx hf => by
        obtain ⟨hi, rfl, hm⟩ := encI_get hd
        exact ev_var rfl hx)) (es := encI (payL r hh ab pr)) (by
        rw [encI_len]
        exact given_list (askL r hh pr) 0 (fun i => decide (nmAt r i ∈ ab)) fun i => PyData.int (i : Int))) s0 fun p xs G1 H1 g1 h0 hn hl hx => k p xs G1 H1 g1 h0 hn hl hx

/-- an inner list: new, its own -/
structure Inn (H0 G H : Hp) (l q : Addr) (u : List Nat) : Prop where
  h0 : H0 q = none
  hn : G q = none
  ne : q ≠ l
  hl : H q = some (.lst (u.map fun i : Nat => V.int (i : Int)))
def spRuns (n : Nat) : Sp := fun vs H Q _ => ∃ (G : Hp) (r : Rw) (h : Str) (ab : List Str) (p : Bool), Sb G H ∧ Dxs G vs [.list (encR r), .str h, .list (ab.map .str), .bool p] ∧ PreR n r h ∧
  ∀ (l : Addr) (qs : List Addr) G' H', Gr [] G H G' H' → H l = none → G' l = none → H' l = some (.lst (qs.map V.ref)) → Paired (Inn H G' H' l) qs (runsM ab p n r h) → Q (.ref l) H'
theorem encI_eq {u : List Nat} {G : Hp} : ∀ {xs : List V}, Dxs G xs (encI u) → xs = u.map fun i : Nat => V.int (i : Int) := by
  induction u with
  | nil => intro xs h; cases h; rfl
  | cons a u ih =>
    intro xs h
    cases h with
    | cons h t => rw [h.int_eq, ih t]; rfl
theorem encI_dx {u : List Nat} {G : Hp} : Dxs G (u.map fun i : Nat => V.int (i : Int)) (encI u) := by
  induction u with
  | nil => exact .nil
  | cons a u ih => exact .cons (.int _) ih
theorem inn_dxs {H0 G H : Hp} {l : Addr} (S : Addr → Prop) : ∀ {qs : List Addr} {us : List (List Nat)}, (∀ q ∈ qs, S q) → Paired (Inn H0 G H l) qs us → Dxs (addAll S G H) (qs.map V.ref) (encU us)
  | _, _, _, .nil => .nil
  | q :: qs, u :: us, hs, .cons x t => .cons (.lst (by rw [addAll_in (hs q (by simp))]; exact x.hl) encI_dx) (inn_dxs S (fun a ha => hs a (by simp [ha])) t)
theorem inn_h0 {H0 G H : Hp} {l : Addr} : ∀ {qs : List Addr} {us : List (List Nat)}, Paired (Inn H0 G H l) qs us → ∀ q ∈ qs, H0 q = none ∧ G q = none ∧ q ≠ l
  | _, _, .nil, q, h => nomatch h
  | _, _, .cons x t, q, h => by
    rcases List.mem_cons.mp h with rfl | h
    · exact ⟨x.h0, x.hn, x.ne⟩
    · exact inn_h0 t q h
def InS (l : Addr) (qs : List Addr) (a : Addr) : Prop := a = l ∨ a ∈ qs
theorem ev_runs {n : Nat} {t : TA} {σ : L2.St} {G H : Hp} {r : Rw} {h : Str} {ab : List Str} {p : Bool} {E : XK} (ht : EvA t σ G H [.list (encR r), .str h, .list (ab.map .str), .bool p]) (hp : PreR n r h) : EvD (tCall (spRuns n) [] E t) σ G H (.list (encU (runsM ab p n r h))) := fun G1 H1 a Q q =>
  ht G1 H1 a _ fun vs G2 H2 g xs => ⟨G2, r, h, ab, p, g.s, by rw [List.append_nil]; exact xs, hp, fun l qs G3 H3 g3 h0 hn hl hi => by
    have hq := inn_h0 hi
    have f1 : ∀ a, InS l qs a → G3 a = none := fun a ha => by
      rcases ha with rfl | ha
      · exact hn
      · exact (hq a ha).2.1
    have f2 : ∀ a, InS l qs a → H2 a = none := fun a ha => by
      rcases ha with rfl | ha
      · exact h0
      · exact (hq a ha).1
    exact q (.ref l) (addAll (InS l qs) G3 H3) H3 (g.trans (g3.freezeAll (InS l qs) f1 f2)) (.lst (by rw [addAll_in (Or.inl rfl)]; exact hl) (inn_dxs (InS l qs) (fun a ha => Or.inr ha) hi))⟩
theorem inn_step {H0 G H G' H' : Hp} {l : Addr} {qs : List Addr} {us : List (List Nat)} (g : Gr [l] G H G' H') (h : Paired (Inn H0 G H l) qs us) : Paired (Inn H0 G' H' l) qs us :=
  paired_mono (fun q u x => ⟨x.h0, g.n q _ x.hl x.hn, x.ne, g.h q _ (by simp [x.ne]) x.hl⟩) h
def spRuns' : Nat → Sp
  | 0 => fun _ _ _ _ => False
  | n + 1 => spRuns n
theorem step_runs_of (T : Txt K mg A) (n : Nat) (G_runs_of : FnOk P w K mg base CX0 (n + 4) A.a_runs_of A.d_runs_of ["row", "holder", "able", "protested"] (spRuns' n)) : FnOk P w K mg base CX0 (n + 5) A.a_runs_of A.d_runs_of ["row", "holder", "able", "protested"] (spRuns n) := by
  have G_payable := ok_payable (P := P) (w := w) (base := base) T
  have G_returned := ok_returned (P := P) (w := w) (base := base) T
  refine T.F_runs_of.ok sc_runs_of (fun vs H Q E h => ?_) (fun cdv A' outer s H vs Q E hr h => ?_)
  · obtain ⟨G, r, h, ab, p, _, hx, _⟩ := h
    exact hx.len
  · obtain ⟨G, r, hh, ab, pr, s0, hx, hpre, k⟩ := h
    obtain ⟨v0, v1, v2, v3, rfl, h_row, h_holder, h_able, h_protested⟩ := dxs4 hx
    refine ⟨_, (pss_cons (ps_set (i := 4) sc_runs_of.nd rfl (Or.inl rfl) (pe_call G_payable (hr.mono (by omega)) (by rfl) T.m_payable T.F_payable.kp T.b_payable .nil pass0 (pa_cons (pv 0) (pa_cons (pv 1) (pa_cons (pv 2) (pa_cons (pv 3) pa_nil))))))
      (pss_cons (ps_if (pt_not (pt_truth (pv 4) (by intro _; rfl)))
      (pss_one (ps_ret (pe_lst (pa_cons (pe_lst pa_nil) pa_nil))))
      pss_nil)
      (pss_cons (ps_set (i := 5) sc_runs_of.nd rfl (Or.inl rfl) (pe_lst pa_nil))
      (pss_cons (ps_for PassesOwn.never rfl (pi_list (pv 4)) (pg_name (i := 6) sc_runs_of.nd rfl (Or.inl rfl))
      (pss_one (ps_for PassesOwn.never rfl (pi_list (pe_call G_runs_of hr (by rfl) T.m_runs_of T.F_runs_of.kp T.b_runs_of .nil pass0 (pa_cons (pe_call G_returned (hr.mono (by omega)) (by rfl) T.m_returned T.F_returned.kp T.b_returned .nil pass0 (pa_cons (pv 0) (pa_cons (pv 6) pa_nil))) (pa_cons (pe_ix (ix_tupK (K := K)) (pe_ix (ix_listK (K := K)) (pv 0) (pv 6) (fun _ _ => rfl)) pe_int (fun _ _ => rfl)) (pa_cons (pv 2) (pa_cons (pv 3) pa_nil)))))) (pg_name (i := 7) sc_runs_of.nd rfl (Or.inl rfl))
      (pss_one (ps_expr (pe_bm PySem.F.plainAttrs_list PySem.F.slot_list_append PySem.F.type_list_append mt_append (pv 5) (pa_cons (pe_lst (pa_cons (pv 6) (StX.pa_star (pv 7) pa_nil))) pa_nil)))))))
      (pss_one (ps_ret (pv 5))))))), ?_⟩
    refine q_asg (EvM.dat (ev_callME (es := encI (payL r hh ab pr)) (r, hh, ab, pr) (ea_cons (ev_var rfl h_row) (ea_cons (ev_var rfl h_holder) (ea_cons (ev_var rfl h_able) (ea_cons (ev_var rfl h_protested) ea_nil)))) hpre.ask rfl)) s0 fun v G1 H1 g1 h_places => ?_
    have h_row := h_row.mono g1.g
    have h_able := h_able.mono g1.g
    have h_protested := h_protested.mono g1.g
    refine q_when (et_not (et_truL (ev_var rfl h_places))) g1.s (fun hb G2 H2 g2 => ?_) (fun hb G2 H2 g2 => ?_)
    · have he : payL r hh ab pr = [] := by
        rw [Bool.not_not] at hb
        cases e : payL r hh ab pr with
        | nil => rfl
        | cons a as => rw [e] at hb; cases hb
      have er : runsM ab pr n r hh = [[]] := by
        cases n with
        | zero => rfl
        | succ n => unfold runsM; rw [if_pos he]
      -- return [[]]
      refine s_retLM (ev_lst ea_nil (by show 0 ≤ 100000; decide)) g2.s fun q ys G3 H3 l g3 q0 qn hq hx hl => ?_
      cases hx
      have gg := (g1.trans g2).trans g3
      have nql : q ≠ l := ne_of_none hq hl
      refine k l [q] G3 _ (gg.own hl) (gg.free hl) (g3.s.none hl) upd_same ?_
      rw [er]
      exact .cons ⟨(g1.trans g2).free q0, qn, nql, by rw [upd_ne nql]; exact hq⟩ .nil
    · have hne : ¬ payL r hh ab pr = [] := fun he => by rw [he] at hb; cases hb
      have h_row := h_row.mono g2.g
      have h_able := h_able.mono g2.g
      have h_protested := h_protested.mono g2.g
      have h_places := h_places.mono g2.g
      have hr8 := hpre.len
      -- some place can be asked: the fuel is not used up
      obtain ⟨m, rfl⟩ : ∃ m, n = m + 1 := by
        cases n with
        | zero =>
          exfalso
          apply hne
          have h0 := hpre.re
          have e0 : reachM r hh = 0 := by omega
          unfold payL askL
          rw [e0]; rfl
        | succ n => exact ⟨n, rfl⟩
      have er : runsM ab pr (m + 1) r hh = (payL r hh ab pr).flatMap fun i => (runsM ab pr m (retM r i) (nmAt r i)).map (i :: ·) := by
        conv => lhs; unfold runsM
        rw [if_neg hne]
      have hlen := hpre.pow ab pr (m + 1)
      rw [er] at hlen
      refine q_asgM (ev_lst ea_nil (by show 0 ≤ 100000; decide)) g2.s fun l xs G3 H3 g3 h0 hn hl hx => ?_
      cases hx
      have g123 := (g1.trans g2)
      have o3 : Ow G H G3 H3 l [] := ⟨(g123.trans g3).any, hl, hn⟩
      have hC0 : H l = none := g123.free h0
      have h_row := h_row.mono g3.g
      have h_able := h_able.mono g3.g
      have h_protested := h_protested.mono g3.g
      have h_places := h_places.mono g3.g
      refine q_forL [l] (fun j σ' G' H' => ∃ (qs : List Addr) (v6 v7 : Option V), σ' = [some v0, some v1, some v2, some v3, some v, some (.ref l), v6, v7] ∧ Ow G H G' H' l (qs.map V.ref) ∧
          Paired (Inn H G' H' l) qs (((payL r hh ab pr).take j).flatMap fun i => (runsM ab pr m (retM r i) (nmAt r i)).map (i :: ·)))
        (ev_var rfl h_places) o3.s (fun G4 H4 g4 => ⟨[], none, none, rfl, o3.step g4, .nil⟩) (fun G4 H4 g4 j d u σ' G' H' hd hu gg p => ?_) (fun σ' G' H' gg p => ?_)
      · obtain ⟨qs, v6, v7, rfl, o, hi⟩ := p
        obtain ⟨hj, rfl, hm⟩ := encI_get hd
        have hju : (payL r hh ab pr)[j]? = some ((payL r hh ab pr).getD j 0) := by
          rw [List.getD_eq_getElem?_getD, List.getElem?_eq_getElem hj]; rfl
        generalize (payL r hh ab pr).getD j 0 = i at hu hm hju
        obtain rfl := hu.int_eq
        have hnext := hpre.next hm
        have hir : i < r.length := Nat.lt_of_lt_of_le (payL_mem hm).1 (reachM_le r hh)
        have h_row := h_row.mono (g4.any.trans gg).g
        have h_able := h_able.mono (g4.any.trans gg).g
        have h_protested := h_protested.mono (g4.any.trans gg).g
        have i_place : ∀ G, Dx G (.int (i : Int)) (.int (i : Int)) := fun _ => .int _
        have et : (payL r hh ab pr).take (j + 1) = (payL r hh ab pr).take j ++ [i] := by rw [List.take_add_one, hju]; rfl
        have hrl := hnext.pow ab pr m
        have bound : ∀ c, c ≤ (runsM ab pr m (retM r i) (nmAt r i)).length → ((((payL r hh ab pr).take j).flatMap fun i => (runsM ab pr m (retM r i) (nmAt r i)).map (i :: ·)) ++ (((runsM ab pr m (retM r i) (nmAt r i)).take c).map (i :: ·))).length ≤ 1000 := fun c hc => by
          rw [List.length_append, List.length_map, List.length_take]
          have e1 := congrArg (fun L => (L.flatMap fun i => (runsM ab pr m (retM r i) (nmAt r i)).map (i :: ·)).length) (List.take_append_drop j (payL r hh ab pr))
          simp only [List.flatMap_append, List.length_append] at e1
          omega
        refine s_forL [l] (fun c σ' G' H' => ∃ (qs : List Addr) (v7 : Option V), σ' = [some v0, some v1, some v2, some v3, some v, some (.ref l), some (.int (i : Int)), v7] ∧ Ow G H G' H' l (qs.map V.ref) ∧
            Paired (Inn H G' H' l) qs ((((payL r hh ab pr).take j).flatMap fun i => (runsM ab pr m (retM r i) (nmAt r i)).map (i :: ·)) ++ (((runsM ab pr m (retM r i) (nmAt r i)).take c).map (i :: ·))))
          (ds := encU (runsM ab pr m (retM r i) (nmAt r i)))
          (ev_runs (ea_cons (EvM.dat (ev_callME (es := encR (retM r i)) (r, i) (ea_cons (ev_var rfl h_row) (ea_cons (ev_var rfl (i_place _)) ea_nil)) (by show r.length ≤ 1000; omega) rfl)) (ea_cons (ev_op (ev_op (ev_var rfl h_row) (ev_var rfl (i_place _)) (rd_ixL (atI_row (getD_row hir)))) ev_int (rd_ixT (atI_nat (j := 0) rfl))) (ea_cons (ev_var rfl h_able) (ea_cons (ev_var rfl h_protested) ea_nil)))) hnext)
          o.s (fun G5 H5 g5 => ⟨qs, v7, rfl, o.step g5, by rw [List.take_zero, List.map_nil, List.append_nil]; exact inn_step g5.any hi⟩) (fun G5 H5 g5 c d u σ' G6 H6 hd hu gg2 p => ?_) (fun σ' G6 H6 gg2 p => ?_)
        · obtain ⟨qs, v7, rfl, o, hi⟩ := p
          unfold encU at hd
          rw [List.getElem?_map] at hd
          cases eu : (runsM ab pr m (retM r i) (nmAt r i))[c]? with
          | none => rw [eu] at hd; cases hd
          | some ru =>
            rw [eu] at hd
            obtain rfl := (Option.some.inj hd).symm
            have hc : c < (runsM ab pr m (retM r i) (nmAt r i)).length := (List.getElem?_eq_some_iff.mp eu).1
            have hru := runsM_run ab pr m _ _ ru (List.mem_of_getElem? eu)
            have hqs : qs.length ≤ 1000 := by
              have := Paired.length hi
              rw [this]
              exact bound c (by omega)
            have hm9 : ru.length ≤ 100 := by
              have := hnext.re
              have h8 : (runsM ab pr m (retM r i) (nmAt r i)) ≠ [] := runsM_ne _ _ _ _ _
              exact run_len8 hnext (List.mem_of_getElem? eu)
            refine s_appM o rfl (ev_lst (ea_cons (ev_var rfl (i_place _)) (ea_star (ev_var rfl hu) ea_nil)) (by rw [List.length_cons, List.length_append, encI_len]; show ru.length + 0 + 1 ≤ 100000; omega)) (by rw [List.length_map]; omega) fun q ys G7 H7 g7 q0 qn hq hy o7 => ?_
            have hC : H q = none := by
              cases e : H q with
              | none => rfl
              | some z =>
                obtain ⟨z', e'⟩ := o.g.t q z e
                rw [e'] at q0; cases q0
            have nql : q ≠ l := fun e => by rw [e, o.hl] at q0; cases q0
            have ey : ys = (i :: ru).map fun i : Nat => V.int (i : Int) := by
              rw [List.append_nil] at hy
              exact encI_eq (u := i :: ru) hy
            refine ⟨G7, (gg2.trans g7.any).write (Or.inl (by simp)) o7.hn, qs ++ [q], _, rfl, by rw [List.map_append]; exact o7, ?_⟩
            have e9 : ((runsM ab pr m (retM r i) (nmAt r i)).take (c + 1)).map (i :: ·) = ((runsM ab pr m (retM r i) (nmAt r i)).take c).map (i :: ·) ++ [i :: ru] := by
              rw [List.take_add_one, eu, List.map_append]; rfl
            rw [e9, ← List.append_assoc]
            refine paired_app (inn_step (g7.any.write (Or.inl (by simp)) o7.hn) hi) (.cons ⟨hC, qn, nql, ?_⟩ .nil)
            rw [upd_ne nql, hq, ey]
        · obtain ⟨qs, v7, rfl, o, hi⟩ := p
          refine ⟨G6, gg.trans gg2, qs, _, _, rfl, o, ?_⟩
          rw [et, List.flatMap_append, List.flatMap_cons, List.flatMap_nil, List.append_nil]
          have e8 : (encU (runsM ab pr m (retM r i) (nmAt r i))).length = (runsM ab pr m (retM r i) (nmAt r i)).length := List.length_map _
          rw [e8, List.take_length] at hi
          exact hi
      · obtain ⟨qs, v6, v7, rfl, o, hi⟩ := p
        rw [encI_len, List.take_length] at hi
        refine ⟨.ref l, rfl, k l qs G' H' (o.g.drop hC0) hC0 o.hn o.hl ?_⟩
        rw [er]
        exact hi
theorem ok_runs_of (T : Txt K mg A) : ∀ n : Nat, FnOk P w K mg base CX0 (n + 4) A.a_runs_of A.d_runs_of ["row", "holder", "able", "protested"] (spRuns' n)
  | 0 => ⟨fun _ _ _ _ h => h.elim, fun _ _ _ _ _ _ _ _ _ _ _ _ _ h => h.elim⟩
  | n + 1 => step_runs_of T n (ok_runs_of T n)

def ableM (fs : List Int) : List Str := ((List.range 9).filter fun i : Nat => decide (0 < nth fs (22 + (i : Int)) % 3)).map fun i : Nat => nm (nth fs 2) (i : Int)
abbrev spAble : Sp := SpM (α := List Int) (fun fs => [.list (fs.map .int)]) FeedOk (fun fs => (ableM fs).map .str)
theorem ok_Lable_names (T : Txt K mg A) : FnOk P w K mg base CX0 2 A.a_Lable_names A.d_Lable_names ["_law_feed_here"] spAble := by
  have G_Lname := ok_Lname (P := P) (w := w) (base := base) T
  refine T.F_Lable_names.ok sc_Lable_names (fun vs H Q E h => ?_) (fun cdv A' outer s H vs Q E hr h => ?_)
  · obtain ⟨G, x, _, hx, _⟩ := h
    exact hx.len
  · obtain ⟨G, fs, s0, hx, hok, k⟩ := h
    obtain ⟨v0, rfl, h_feed_here⟩ := dxs1 hx
    refine ⟨_, (pss_one (ps_ret (pe_lc (own := [("_law_k", 1)]) (g := gName 1) rfl sc_Lable_names.nd (pi_range1 (by rfl) T.b.range (pa_cons pe_int pa_nil)) (blkOk_by (own := [("_law_k", 1)]) (N := N_Lable_names) (sc := defScope s_Lable_names) (by decide +kernel)) (fun _ _ _ _ _ => pg_name (i := 1) sc_Lable_names.nd rfl (Or.inl rfl)) (fun _ _ _ _ _ => pts_one (pt_cmpR op_gt (pe_op op_mod (pe_ix (ix_listK (K := K)) (pv 0) (pe_op op_add pe_int (pv 1)) (fun _ _ => rfl)) pe_int) pe_int (nomark _))) (fun _ _ _ _ _ => (pe_call G_Lname (hr.mono (by omega)) (by rfl) T.m_Lname T.F_Lname.kp T.b_Lname .nil pass0 (pa_cons (pe_ix (ix_listK (K := K)) (pv 0) pe_int (fun _ _ => rfl)) (pa_cons (pv 1) pa_nil))))))), ?_⟩
    refine s_retM (evm_is (ev_lcR (fun i => decide (0 < nth fs (22 + (i : Int)) % 3)) (fun i => .str (nm (nth fs 2) (i : Int))) (ea_cons ev_int ea_nil) (by omega) (fun _ => rfl)
      (fun i hi => evt_is ((fun h_k => (et_test (ev_op (ev_op (ev_op (ev_var rfl h_feed_here) (ev_op ev_int (ev_var rfl h_k) rd_add) (rd_ixL (by walk_at "at"))) ev_int (rd_mod (by walk_at "arith"))) ev_int rd_gt))) (Dx.int (i : Int))) rfl)
      (fun i hi hf => ev_callE (nth fs 2, (i : Int)) (ea_cons (ev_op (ev_var rfl h_feed_here) ev_int (rd_ixL (by walk_at "at"))) (ea_cons (ev_var rfl (Dx.int (i : Int))) ea_nil)) ⟨nth_ok hok (by omega) (by omega), by omega⟩ rfl)) (es := (ableM fs).map .str) (by unfold ableM given; rw [List.map_map]; rfl)) s0 fun p xs G1 H1 g1 h0 hn hl hx => k p xs G1 H1 g1 h0 hn hl hx

/-! ### the mathematics of the bearer -/
def bearM (r : Rw) (h : Str) (ab : List Str) (p : Bool) : Str := match payL r h ab p with
  | [] => h
  | i :: _ => nmAt r i
theorem mem_pay {r : Rw} {h : Str} {ab : List Str} {p : Bool} {i : Nat} : i ∈ payL r h ab p ↔ i < reachM r h ∧ askF r p i = true ∧ nmAt r i ∈ ab := by
  unfold payL askL
  rw [List.mem_filter, List.mem_filter, List.mem_range, decide_eq_true_iff, and_assoc]
theorem pay_sorted (r : Rw) (h : Str) (ab : List Str) (p : Bool) : (payL r h ab p).Pairwise (· < ·) := by
  unfold payL askL
  exact (List.pairwise_lt_range.filter _).filter _
theorem bear_min {r : Rw} {h : Str} {ab : List Str} {p : Bool} {i : Nat} (hi : i ∈ payL r h ab p) (hm : ∀ j ∈ payL r h ab p, i ≤ j) : bearM r h ab p = nmAt r i := by
  have hs := pay_sorted r h ab p
  unfold bearM
  cases e : payL r h ab p with
  | nil => rw [e] at hi; cases hi
  | cons a t =>
    rw [e] at hi hm hs
    have h1 := hm a (by simp)
    rcases List.mem_cons.mp hi with rfl | h2
    · rfl
    · have := (List.pairwise_cons.mp hs).1 i h2
      omega
theorem exists_min {r : Rw} {h : Str} {ab : List Str} {p : Bool} (hne : payL r h ab p ≠ []) : ∃ i, i ∈ payL r h ab p ∧ ∀ j ∈ payL r h ab p, i ≤ j := by
  have hs := pay_sorted r h ab p
  cases e : payL r h ab p with
  | nil => exact absurd e hne
  | cons a t =>
    rw [e] at hs
    refine ⟨a, by simp, fun j hj => ?_⟩
    rcases List.mem_cons.mp hj with rfl | h2
    · exact Nat.le_refl _
    · exact Nat.le_of_lt ((List.pairwise_cons.mp hs).1 j h2)
theorem bear_nil {r : Rw} {h : Str} {ab : List Str} {p : Bool} (he : payL r h ab p = []) : bearM r h ab p = h := by
  unfold bearM; rw [he]
theorem ret_get {r : Rw} {i j : Nat} (hj : j < i) : (retM r i).getD j ("", false) = r.getD j ("", false) := by
  unfold retM
  split
  · rfl
  · rw [List.getD_eq_getElem?_getD, List.getD_eq_getElem?_getD, List.getElem?_take_of_lt (by omega)]
theorem reach_hit {r : Rw} {h : Str} (hl : reachM r h < r.length) : bnd r (reachM r h) = true ∧ nmAt r (reachM r h) = h := by
  have hg := List.findIdx_getElem (xs := r) (p := fun q : Str × Bool => q.2 && decide (q.1 = h)) (w := hl)
  rw [Bool.and_eq_true] at hg
  have e : r.getD (reachM r h) ("", false) = r[reachM r h] := by rw [List.getD_eq_getElem?_getD, List.getElem?_eq_getElem hl]; rfl
  unfold bnd nmAt
  rw [e]
  exact ⟨hg.1, of_decide_eq_true hg.2⟩
theorem bear_next {r : Rw} {h : Str} {ab : List Str} {p : Bool} {i : Nat} (hi : i ∈ payL r h ab p) : bearM (retM r i) (nmAt r i) ab p = bearM r h ab p := by
  obtain ⟨i0, h0, hmin⟩ := exists_min (List.ne_nil_of_mem hi)
  obtain ⟨hi1, hi2, hi3⟩ := mem_pay.mp hi
  obtain ⟨h01, h02, h03⟩ := mem_pay.mp h0
  have hbi : bnd r i = true := (payL_mem hi).2
  have hre := reach_next hi1 hbi
  have hle := reachM_le r h
  have hi0 := hmin i hi
  have agB : ∀ j, j < i → bnd (retM r i) j = bnd r j := fun j hj => by unfold bnd; rw [ret_get hj]
  have agN : ∀ j, j < i → nmAt (retM r i) j = nmAt r j := fun j hj => by unfold nmAt; rw [ret_get hj]
  have agA : ∀ j, j < i → askF (retM r i) p j = askF r p j := fun j hj => by unfold askF; rw [agB j hj]
  have up : ∀ j, j ∈ payL (retM r i) (nmAt r i) ab p → j < i ∧ j ∈ payL r h ab p := fun j hj => by
    obtain ⟨j1, j2, j3⟩ := mem_pay.mp hj
    have hji : j < i := by omega
    exact ⟨hji, mem_pay.mpr ⟨by omega, by rw [← agA j hji]; exact j2, by rw [← agN j hji]; exact j3⟩⟩
  rw [bear_min h0 hmin]
  by_cases hn : payL (retM r i) (nmAt r i) ab p = []
  · rw [bear_nil hn]
    by_cases e : i0 = i
    · rw [e]
    · have hlt : i0 < i := by omega
      have hnot : ¬ i0 < reachM (retM r i) (nmAt r i) := fun hh => by
        have : i0 ∈ payL (retM r i) (nmAt r i) ab p := mem_pay.mpr ⟨hh, by rw [agA i0 hlt]; exact h02, by rw [agN i0 hlt]; exact h03⟩
        rw [hn] at this; cases this
      have hll : (retM r i).length ≥ i := by
        unfold retM
        split
        · omega
        · rw [List.length_take]; omega
      obtain ⟨k1, k2⟩ := reach_hit (r := retM r i) (h := nmAt r i) (by omega)
      generalize reachM (retM r i) (nmAt r i) = j at hnot k1 k2 hre
      have hji : j < i := by omega
      rw [agB j hji] at k1
      rw [agN j hji] at k2
      have hp : p = true := by
        unfold askF at hi2
        rw [Bool.and_eq_true, Bool.or_eq_true] at hi2
        rcases hi2.2 with hp | hp
        · exact hp
        · have := of_decide_eq_true hp; omega
      have hj : j ∈ payL r h ab p := mem_pay.mpr ⟨by omega, by unfold askF; rw [k1, hp]; rfl, by rw [k2]; exact hi3⟩
      have : i0 = j := by have := hmin j hj; omega
      rw [this, k2]
  · obtain ⟨j0, hj0, hjm⟩ := exists_min hn
    obtain ⟨u1, u2⟩ := up j0 hj0
    have h1 := hmin j0 u2
    have hlt : i0 < i := by omega
    have hmem : i0 ∈ payL (retM r i) (nmAt r i) ab p := mem_pay.mpr ⟨by have := (mem_pay.mp hj0).1; omega, by rw [agA i0 hlt]; exact h02, by rw [agN i0 hlt]; exact h03⟩
    have h2 := hjm i0 hmem
    have e : j0 = i0 := by omega
    rw [bear_min hj0 hjm, e, agN i0 hlt]
theorem bear_zero {r : Rw} {h : Str} {ab : List Str} {p : Bool} (hi : 0 ∈ payL r h ab p) : nmAt r 0 = bearM r h ab p := by
  rw [← bear_next hi]
  have h1 := reach_next (payL_mem hi).1 (payL_mem hi).2
  refine (bear_nil ?_).symm
  unfold payL askL
  have : reachM (retM r 0) (nmAt r 0) = 0 := by omega
  rw [this]; rfl
theorem ret_take {r : Rw} {i : Nat} (h : ¬ i = 0) : retM r i = r.take (max i 2) := by unfold retM; rw [if_neg h]
/-! a run walked -/
def walkM : List Nat → Rw → Str → Str
  | [], _, h => h
  | i :: u, r, _ => walkM u (r.take (max i 2)) (nmAt r i)
def walkOk : List Nat → Rw → Prop
  | [], _ => True
  | i :: u, r => i < r.length ∧ walkOk u (r.take (max i 2))
theorem runs_walk {ab : List Str} {p : Bool} : ∀ (n : Nat) (r : Rw) (h : Str) (u : List Nat), reachM r h ≤ n → u ∈ runsM ab p n r h → walkOk u r ∧ walkM u r h = bearM r h ab p
  | 0, r, h, u, hr, hu => by
    unfold runsM at hu
    rw [List.mem_singleton.mp hu]
    refine ⟨True.intro, (bear_nil (r := r) (h := h) ?_).symm⟩
    unfold payL askL
    have : reachM r h = 0 := by omega
    rw [this]; rfl
  | n + 1, r, h, u, hr, hu => by
    unfold runsM at hu
    split at hu
    · rename_i he
      rw [List.mem_singleton.mp hu]
      exact ⟨True.intro, (bear_nil he).symm⟩
    · obtain ⟨i, hi, hu2⟩ := List.mem_flatMap.mp hu
      obtain ⟨u', hu', rfl⟩ := List.mem_map.mp hu2
      obtain ⟨h1, h2⟩ := payL_mem hi
      have h3 := reach_next h1 h2
      have hle := reachM_le r h
      by_cases h0 : i = 0
      · subst h0
        have e0 : runsM ab p n (retM r 0) (nmAt r 0) = [[]] := by
          cases n with
          | zero => rfl
          | succ n =>
            unfold runsM
            rw [if_pos]
            unfold payL askL
            have : reachM (retM r 0) (nmAt r 0) = 0 := by omega
            rw [this]; rfl
        rw [e0] at hu'
        rw [List.mem_singleton.mp hu']
        exact ⟨⟨by omega, True.intro⟩, bear_zero hi⟩
      · obtain ⟨k1, k2⟩ := runs_walk n _ _ u' (by omega) hu'
        rw [ret_take h0] at k1 k2
        refine ⟨⟨by omega, k1⟩, ?_⟩
        show walkM u' (r.take (max i 2)) (nmAt r i) = _
        rw [k2, ← ret_take h0]
        exact bear_next hi
/-! asking by picks -/
def endM (ab : List Str) (p : Bool) : List Int → Rw → Str → Str
  | [], _, h => h
  | k :: ks, r, h => if payL r h ab p = [] then endM ab p ks r h else
      (if (payL r h ab p).getD (k % (payL r h ab p).length).toNat 0 = 0 then nmAt r ((payL r h ab p).getD (k % (payL r h ab p).length).toNat 0)
       else endM ab p ks (r.take (max ((payL r h ab p).getD (k % (payL r h ab p).length).toNat 0) 2)) (nmAt r ((payL r h ab p).getD (k % (payL r h ab p).length).toNat 0)))
theorem end_cons (ab : List Str) (p : Bool) (k : Int) (ks : List Int) (r : Rw) (h : Str) : endM ab p (k :: ks) r h = if payL r h ab p = [] then endM ab p ks r h else
      (if (payL r h ab p).getD (k % (payL r h ab p).length).toNat 0 = 0 then nmAt r ((payL r h ab p).getD (k % (payL r h ab p).length).toNat 0)
       else endM ab p ks (r.take (max ((payL r h ab p).getD (k % (payL r h ab p).length).toNat 0) 2)) (nmAt r ((payL r h ab p).getD (k % (payL r h ab p).length).toNat 0))) := rfl
theorem end_nil {ab : List Str} {p : Bool} {r : Rw} {h : Str} (he : payL r h ab p = []) : ∀ ks, endM ab p ks r h = h
  | [] => rfl
  | k :: ks => by unfold endM; rw [if_pos he]; exact end_nil he ks
theorem pick_mem {L : List Nat} (h : L ≠ []) (k : Int) : (0 ≤ k % (L.length : Int) ∧ k % (L.length : Int) < L.length) ∧ L.getD (k % L.length).toNat 0 ∈ L := by
  have hl : 0 < L.length := List.length_pos_iff.mpr h
  have h1 := Int.emod_nonneg k (show (L.length : Int) ≠ 0 by omega)
  have h2 := Int.emod_lt_of_pos k (show (0 : Int) < L.length by omega)
  exact ⟨⟨h1, h2⟩, getD_of (P := fun x => x ∈ L) (fun x hx => hx) (by omega)⟩
theorem end_bear {ab : List Str} {p : Bool} : ∀ (ks : List Int) (r : Rw) (h : Str), reachM r h ≤ ks.length → endM ab p ks r h = bearM r h ab p
  | [], r, h, hr => by
    refine (bear_nil (r := r) (h := h) ?_).symm
    unfold payL askL
    have : reachM r h = 0 := by simpa using hr
    rw [this]; rfl
  | k :: ks, r, h, hr => by
    by_cases he : payL r h ab p = []
    · rw [end_nil he, bear_nil he]
    · obtain ⟨_, hm⟩ := pick_mem he k
      unfold endM
      rw [if_neg he]
      generalize (payL r h ab p).getD (k % (payL r h ab p).length).toNat 0 = i at hm
      by_cases h0 : i = 0
      · rw [if_pos h0, h0]
        rw [h0] at hm
        exact bear_zero hm
      · rw [if_neg h0, ← ret_take h0]
        obtain ⟨h1, h2⟩ := payL_mem hm
        have h3 := reach_next h1 h2
        rw [List.length_cons] at hr
        rw [end_bear ks _ _ (by omega)]
        exact bear_next hm
structure PreW (r : Rw) (h : Str) : Prop where
  nm : ∀ p ∈ r, NmOk p.1
  len : r.length ≤ 8
  sm : Sm h
theorem PreW.ask {r : Rw} {h : Str} (x : PreW r h) : (∀ p ∈ r, NmOk p.1) ∧ r.length ≤ 1000 ∧ Sm h := ⟨x.nm, by have := x.len; omega, x.sm⟩
theorem PreW.take {r : Rw} {h : Str} (x : PreW r h) {i n : Nat} (hi : i < r.length) : PreW (r.take n) (nmAt r i) :=
  ⟨fun q hq => x.nm q (List.mem_of_mem_take hq), by rw [List.length_take]; have := x.len; omega, (nmAt_ok x.nm hi).sm⟩

abbrev spBear : Sp := SpD (α := Rw × Str × List Str × Bool) (fun x => [.list (encR x.1), .str x.2.1, .list (x.2.2.1.map .str), .bool x.2.2.2]) (fun x => PreW x.1 x.2.1) (fun x => .str (bearM x.1 x.2.1 x.2.2.1 x.2.2.2))
theorem ok_bearer_of (T : Txt K mg A) : FnOk P w K mg base CX0 4 A.a_bearer_of A.d_bearer_of ["row", "holder", "able", "protested"] spBear := by
  have G_payable := ok_payable (P := P) (w := w) (base := base) T
  refine T.F_bearer_of.ok sc_bearer_of (fun vs H Q E h => ?_) (fun cdv A' outer s H vs Q E hr h => ?_)
  · obtain ⟨G, x, _, hx, _⟩ := h
    exact hx.len
  · obtain ⟨G, ⟨r, hh, ab, pr⟩, s0, hx, hpre, k⟩ := h
    obtain ⟨v0, v1, v2, v3, rfl, h_row, h_holder, h_able, h_protested⟩ := dxs4 hx
    simp only at hpre k h_row h_holder h_able h_protested
    refine ⟨_, (pss_cons (ps_set (i := 4) sc_bearer_of.nd rfl (Or.inl rfl) (pe_call G_payable (hr.mono (by omega)) (by rfl) T.m_payable T.F_payable.kp T.b_payable .nil pass0 (pa_cons (pv 0) (pa_cons (pv 1) (pa_cons (pv 2) (pa_cons (pv 3) pa_nil))))))
      (pss_cons (ps_if (pt_not (pt_truth (pv 4) (by intro _; rfl)))
      (pss_one (ps_ret (pv 1)))
      pss_nil)
      (pss_one (ps_ret (pe_ix (ix_tupK (K := K)) (pe_ix (ix_listK (K := K)) (pv 0) (pe_ix (ix_listK (K := K)) (pv 4) pe_int (fun _ _ => rfl)) (fun _ _ => rfl)) pe_int (fun _ _ => rfl)))))), ?_⟩
    refine q_asg (EvM.dat (ev_callME (es := encI (payL r hh ab pr)) (r, hh, ab, pr) (ea_cons (ev_var rfl h_row) (ea_cons (ev_var rfl h_holder) (ea_cons (ev_var rfl h_able) (ea_cons (ev_var rfl h_protested) ea_nil)))) hpre.ask rfl)) s0 fun v G1 H1 g1 h_places => ?_
    have h_row := h_row.mono g1.g
    have h_holder := h_holder.mono g1.g
    refine q_when (et_not (et_truL (ev_var rfl h_places))) g1.s (fun hb G2 H2 g2 => ?_) (fun hb G2 H2 g2 => ?_)
    · have he : payL r hh ab pr = [] := by
        rw [Bool.not_not] at hb
        cases e : payL r hh ab pr with
        | nil => rfl
        | cons a as => rw [e] at hb; cases hb
      refine s_ret (ev_var rfl (h_holder.mono g2.g)) g2.s fun v5 G5 H5 g5 hv => k v5 G5 H5 ((g1.trans g2).trans g5) ?_
      rw [bear_nil he]; exact hv
    · have h_row := h_row.mono g2.g
      have h_places := h_places.mono g2.g
      cases e : payL r hh ab pr with
      | nil => rw [e] at hb; cases hb
      | cons i t =>
        rw [e] at h_places
        have hm : i ∈ payL r hh ab pr := by rw [e]; simp
        have hir : i < r.length := Nat.lt_of_lt_of_le (payL_mem hm).1 (reachM_le r hh)
        refine s_ret (ev_op (ev_op (ev_var rfl h_row) (ev_op (ev_var rfl h_places) ev_int (rd_ixL (atI_nat (j := 0) (v := .int (i : Int)) rfl))) (rd_ixL (atI_row (getD_row hir)))) ev_int (rd_ixT (atI_nat (j := 0) rfl))) g2.s fun v5 G5 H5 g5 hv => k v5 G5 H5 ((g1.trans g2).trans g5) ?_
        have eb : bearM r hh ab pr = nmAt r i := by unfold bearM; rw [e]
        rw [eb]; exact hv

abbrev spWalk : Sp := SpD (α := Rw × Str × List Nat) (fun x => [.list (encR x.1), .str x.2.1, .list (encI x.2.2)]) (fun x => PreW x.1 x.2.1 ∧ walkOk x.2.2 x.1) (fun x => .str (walkM x.2.2 x.1 x.2.1))
theorem ok_Lwalked (T : Txt K mg A) : FnOk P w K mg base CX0 1 A.a_Lwalked A.d_Lwalked ["_law_row_here", "_law_holder", "_law_run"] spWalk := by
  refine T.F_Lwalked.ok sc_Lwalked (fun vs H Q E h => ?_) (fun cdv A' outer s H vs Q E hr h => ?_)
  · obtain ⟨G, x, _, hx, _⟩ := h
    exact hx.len
  · obtain ⟨G, ⟨r, hh, u⟩, s0, hx, ⟨hpre, hok⟩, k⟩ := h
    obtain ⟨v0, v1, v2, rfl, h_row_here, h_holder, h_run⟩ := dxs3 hx
    simp only at hpre hok k h_row_here h_holder h_run
    refine ⟨_, (pss_cons (ps_for PassesOwn.never rfl (pi_list (pv 2)) (pg_name (i := 3) sc_Lwalked.nd rfl (Or.inl rfl))
      (pss_cons (ps_set (i := 1) sc_Lwalked.nd rfl (Or.inl rfl) (pe_ix (ix_tupK (K := K)) (pe_ix (ix_listK (K := K)) (pv 0) (pv 3) (fun _ _ => rfl)) pe_int (fun _ _ => rfl)))
      (pss_one (ps_set (i := 0) sc_Lwalked.nd rfl (Or.inl rfl) (pe_slice (sl_listK (K := K)) (pv 0) po_none (po_some (pe_callB (call_max2 rfl) (by rfl) T.b.max (by decide +kernel) (pa_cons pe_int (pa_cons (pv 3) pa_nil)))))))))
      (pss_one (ps_ret (pv 1)))), ?_⟩
    refine q_forV [] (fun j σ' G' H' => ∃ (u0 u1 : V) (v3 : Option V) (r' : Rw) (h' : Str), σ' = [some u0, some u1, some v2, v3] ∧ Dx G' u0 (.list (encR r')) ∧ Dx G' u1 (.str h') ∧ PreW r' h' ∧ walkOk (u.drop j) r' ∧ walkM (u.drop j) r' h' = walkM u r hh)
      rfl h_run s0 ⟨v0, v1, none, r, hh, rfl, h_row_here, h_holder, hpre, hok, rfl⟩ (fun j d x σ' G' H' hd hx' gg p => ?_) (fun σ' G' H' gg p => ?_)
    · obtain ⟨u0, u1, v3, r', h', rfl, h_row_here, h_holder, hp, ho, he⟩ := p
      obtain ⟨hj, rfl, _⟩ := encI_get hd
      have ed : u.drop j = u.getD j 0 :: u.drop (j + 1) := by
        rw [List.getD_eq_getElem?_getD, List.getElem?_eq_getElem hj]
        exact List.drop_eq_getElem_cons hj
      rw [ed] at ho he
      generalize u.getD j 0 = i at hx' ho he
      obtain rfl := hx'.int_eq
      have i_place : ∀ G, Dx G (.int (i : Int)) (.int (i : Int)) := fun _ => .int _
      refine q_asg (ev_op (ev_op (ev_var rfl h_row_here) (ev_var rfl (i_place _)) (rd_ixL (atI_row (getD_row ho.1)))) ev_int (rd_ixT (atI_nat (j := 0) rfl))) gg.s fun v5 G5 H5 g5 h_holder => ?_
      have h_row_here := h_row_here.mono g5.g
      refine s_asg (EvM.dat (evm_is ((fun h_place => (ev_sl (ev_var rfl h_row_here) eo_none (eo_some (ev_cb (ea_cons ev_int (ea_cons (ev_var rfl h_place) ea_nil)) cd_max2)))) (i_place _)) (cut_row' (r := r') (n := max i 2) (by split <;> omega)))) g5.s fun v6 G6 H6 g6 h_row_here => ?_
      exact ⟨G6, (gg.trans g5).trans g6, v6, v5, _, _, _, rfl, h_row_here, h_holder.mono g6.g, hp.take ho.1, ho.2, he⟩
    · obtain ⟨u0, u1, v3, r', h', rfl, h_row_here, h_holder, hp, ho, he⟩ := p
      rw [encI_len, List.drop_length] at he
      refine s_ret (ev_var rfl h_holder) gg.s fun v5 G5 H5 g5 hv => k v5 G5 H5 (gg.trans g5) ?_
      rw [← he]; exact hv

theorem shaped_I (u : List Nat) : SeqAt.shaped (.list (encI u)) = true := by
  have go : PyData.canLayAll0 (encI u) = true ∧ PyData.depthAll (encI u) ≤ 4 := by
    induction u with
    | nil => exact ⟨rfl, by show PyData.depthAll [] ≤ 4; unfold PyData.depthAll; omega⟩
    | cons a u ih =>
      refine ⟨?_, ?_⟩
      · show PyData.canLayAll0 (PyData.int (a : Int) :: encI u) = true
        rw [PyData.canLayAll0, ih.1]; simp [PyData.canLay0]
      · show PyData.depthAll (PyData.int (a : Int) :: encI u) ≤ 4
        simp only [PyData.depthAll, PyData.depth]
        omega
  obtain ⟨a, b⟩ := go
  unfold SeqAt.shaped
  rw [Bool.and_eq_true]
  refine ⟨by rw [PyData.canLay0]; exact a, decide_eq_true ?_⟩
  unfold PyData.depth
  omega
theorem eqv_nilI (u : List Nat) : PyData.eqv (.list (encI u)) (.list []) = u.isEmpty := by
  cases u with
  | nil => unfold PyData.eqv; rfl
  | cons a u => unfold PyData.eqv; rfl
abbrev spEnd : Sp := SpD (α := Rw × Str × List Str × Bool × List Int) (fun x => [.list (encR x.1), .str x.2.1, .list (x.2.2.1.map .str), .bool x.2.2.2.1, .list (x.2.2.2.2.map .int)]) (fun x => PreW x.1 x.2.1) (fun x => .str (endM x.2.2.1 x.2.2.2.1 x.2.2.2.2 x.1 x.2.1))
theorem ok_Lend (T : Txt K mg A) : FnOk P w K mg base CX0 3 A.a_Lend A.d_Lend ["_law_row_here", "_law_holder", "_law_able", "_law_protested", "_law_picks"] spEnd := by
  have G_Laskable := ok_Laskable (P := P) (w := w) (base := base) T
  refine T.F_Lend.ok sc_Lend (fun vs H Q E h => ?_) (fun cdv A' outer s H vs Q E hr h => ?_)
  · obtain ⟨G, x, _, hx, _⟩ := h
    exact hx.len
  · obtain ⟨G, ⟨r0, hh0, ab, pr, ks⟩, s0, hx, hpre0, k⟩ := h
    obtain ⟨v0, v1, v2, v3, v4, rfl, h_row_here, h_holder, h_able, h_protested, h_picks⟩ := dxs5 hx
    simp only at hpre0 k h_row_here h_holder h_able h_protested h_picks
    refine ⟨_, (pss_cons (ps_for PassesOwn.never rfl (pi_list (pv 4)) (pg_name (i := 5) sc_Lend.nd rfl (Or.inl rfl))
      (pss_cons (ps_setLc (i := 7) (own := [("_law_place", 6)]) (g := gName 6) rfl sc_Lend.nd rfl rfl (sw_true rfl rfl rfl (by decide +kernel)) (pi_list (pe_call G_Laskable (hr.mono (by omega)) (by rfl) T.m_Laskable T.F_Laskable.kp T.b_Laskable .nil pass0 (pa_cons (pv 0) (pa_cons (pv 1) (pa_cons (pv 3) pa_nil))))) (blkOk_by (own := [("_law_place", 6)]) (N := N_Lend) (sc := defScope s_Lend) (by decide +kernel)) (fun _ _ _ _ _ => pg_name (i := 6) sc_Lend.nd rfl (Or.inl rfl)) (fun _ _ _ _ _ => pts_one (pt_cmpR (op_inK (K := K)) (pe_ix (ix_tupK (K := K)) (pe_ix (ix_listK (K := K)) (pv 0) (pv 6) (fun _ _ => rfl)) pe_int (fun _ _ => rfl)) (pv 2) rfl)) (fun _ _ _ _ _ => (pv 6)))
      (pss_one (ps_if (pt_cmpR (op_neDK (K := K) hr.units) (pv 7) (pe_lst pa_nil) (nomark _))
      (pss_cons (ps_set (i := 6) sc_Lend.nd rfl (Or.inl rfl) (pe_ix (ix_listK (K := K)) (pv 7) (pe_op op_mod (pv 5) (pe_callB (call_lenK (K := K)) (by rfl) T.b.len (by decide +kernel) (pa_cons (pv 7) pa_nil))) (fun _ _ => rfl)))
      (pss_cons (ps_set (i := 1) sc_Lend.nd rfl (Or.inl rfl) (pe_ix (ix_tupK (K := K)) (pe_ix (ix_listK (K := K)) (pv 0) (pv 6) (fun _ _ => rfl)) pe_int (fun _ _ => rfl)))
      (pss_cons (ps_set (i := 0) sc_Lend.nd rfl (Or.inr rfl) (pe_slice (sl_listK (K := K)) (pv 0) po_none (po_some (pe_callB (call_max2 rfl) (by rfl) T.b.max (by decide +kernel) (pa_cons pe_int (pa_cons (pv 6) pa_nil))))))
      (pss_one (ps_if (pt_cmpR op_eq (pv 6) pe_int (nomark _))
      (pss_one (ps_ret (pv 1)))
      pss_nil)))))
      pss_nil))))
      (pss_one (ps_ret (pv 1)))), ?_⟩
    refine q_forV [] (fun j σ' G' H' => ∃ (u0 u1 : V) (v5 v6 v7 : Option V) (r' : Rw) (h' : Str), σ' = [some u0, some u1, some v2, some v3, some v4, v5, v6, v7] ∧ Dx G' u0 (.list (encR r')) ∧ Dx G' u1 (.str h') ∧ PreW r' h' ∧ endM ab pr (ks.drop j) r' h' = endM ab pr ks r0 hh0)
      rfl h_picks s0 ⟨v0, v1, none, none, none, r0, hh0, rfl, h_row_here, h_holder, hpre0, rfl⟩ (fun j d x σ' G' H' hd hx' gg p => ?_) (fun σ' G' H' gg p => ?_)
    · obtain ⟨u0, u1, v5, v6, v7, r, hh, rfl, h_row_here, h_holder, hpre, he⟩ := p
      rw [List.getElem?_map] at hd
      cases ek : ks[j]? with
      | none => rw [ek] at hd; cases hd
      | some c =>
        rw [ek] at hd
        obtain rfl := (Option.some.inj hd).symm
        obtain rfl := hx'.int_eq
        have hj : j < ks.length := (List.getElem?_eq_some_iff.mp ek).1
        have ed : ks.drop j = c :: ks.drop (j + 1) := by
          have := List.drop_eq_getElem_cons hj
          rw [this]
          have e2 : ks[j] = c := (List.getElem?_eq_some_iff.mp ek).2
          rw [e2]
        rw [ed] at he
        have h_able := h_able.mono gg.g
        have h_protested := h_protested.mono gg.g
        have hal : (askL r hh pr).length ≤ 1000 := by
          have h1 := List.length_filter_le (askF r pr) (List.range (reachM r hh))
          rw [List.length_range] at h1
          have := reachM_le r hh
          have := hpre.len
          unfold askL
          omega
        have hr8 := hpre.len
        refine q_asg (EvM.dat (evm_is (ev_lcLn (fun i => decide (nmAt r ((askL r hh pr).getD i 0) ∈ ab)) (fun i => .int (((askL r hh pr).getD i 0 : Nat) : Int)) (ds := encI (askL r hh pr))
          (EvM.dat (ev_callME (es := encI (askL r hh pr)) (r, hh, pr) (ea_cons (ev_var rfl h_row_here) (ea_cons (ev_var rfl h_holder) (ea_cons (ev_var rfl h_protested) ea_nil))) hpre.ask rfl)) (by rw [encI_len]; omega) (fun _ => rfl)
          (fun i d x G1 H1 gg hd hx => by
            obtain ⟨hi, rfl, hm⟩ := encI_get hd
            have hlt : (askL r hh pr).getD i 0 < r.length := by
              have := List.mem_range.mp (List.mem_filter.mp hm).1
              have := reachM_le r hh
              omega
            exact et_test (ev_op (ev_op (ev_op (ev_var rfl (h_row_here.mono gg.g)) (ev_var rfl hx) (rd_ixL (atI_row (getD_row hlt)))) ev_int (rd_ixT (atI_nat (j := 0) rfl))) (ev_var rfl (h_able.mono gg.g)) rd_InL))
          (fun i d x G1 H1 gg hd hx hf => by
            obtain ⟨hi, rfl, hm⟩ := encI_get hd
            exact ev_var rfl hx)) (es := encI (payL r hh ab pr)) (by
            rw [encI_len]
            exact given_list (askL r hh pr) 0 (fun i => decide (nmAt r i ∈ ab)) fun i => PyData.int (i : Int)))) gg.s fun v G1 H1 g1 h_places => ?_
        have h_row_here := h_row_here.mono g1.g
        have h_holder := h_holder.mono g1.g
        refine s_if (evt_is (et_test (ev_op (ev_var rfl h_places) (ev_lst ea_nil (by show 0 ≤ 100000; decide)).dat (rd_neD (shaped_I _) (shaped_I [])))) (c := !(payL r hh ab pr).isEmpty) (by rw [← eqv_nilI])) g1.s (fun hb G2 H2 g2 => ?_) (fun hb G2 H2 g2 => ?_)
        · have hne : payL r hh ab pr ≠ [] := fun e => by rw [e] at hb; cases hb
          obtain ⟨⟨q1, q2⟩, hm⟩ := pick_mem hne c
          have h_row_here := h_row_here.mono g2.g
          have h_places := h_places.mono g2.g
          have i_pick : ∀ G, Dx G (.int c) (.int c) := fun _ => .int _
          have hlen0 : 0 < (encI (payL r hh ab pr)).length := by rw [encI_len]; exact List.length_pos_iff.mpr hne
          have hat : atI (encI (payL r hh ab pr)) (c % ((encI (payL r hh ab pr)).length : Int)) = some (.int (((payL r hh ab pr).getD (c % (payL r hh ab pr).length).toNat 0 : Nat) : Int)) := by
            rw [encI_len]
            obtain ⟨m, hm2⟩ : ∃ m : Nat, c % ((payL r hh ab pr).length : Int) = (m : Int) := ⟨(c % ((payL r hh ab pr).length : Int)).toNat, by omega⟩
            rw [hm2]
            have hml : m < (payL r hh ab pr).length := by omega
            refine atI_nat ?_
            unfold encI
            rw [List.getElem?_map, List.getElem?_eq_getElem hml]
            have e3 : ((m : Nat) : Int).toNat = m := by omega
            rw [e3, List.getD_eq_getElem?_getD, List.getElem?_eq_getElem hml]
            rfl
          rw [end_cons] at he
          rw [if_neg hne] at he
          refine q_asg (ev_op (ev_var rfl h_places) (ev_op (ev_var rfl (i_pick _)) (ev_cb (ea_cons (ev_var rfl h_places) ea_nil) cd_lenL) (rd_mod (by omega))) (rd_ixL hat)) g2.s fun v8 G3 H3 g3 hv8 => ?_
          obtain rfl := hv8.int_eq
          have h_row_here := h_row_here.mono g3.g
          generalize (payL r hh ab pr).getD (c % (payL r hh ab pr).length).toNat 0 = i at hm he
          have hir : i < r.length := Nat.lt_of_lt_of_le (payL_mem hm).1 (reachM_le r hh)
          have i_place : ∀ G, Dx G (.int (i : Int)) (.int (i : Int)) := fun _ => .int _
          refine q_asg (ev_op (ev_op (ev_var rfl h_row_here) (ev_var rfl (i_place _)) (rd_ixL (atI_row (getD_row hir)))) ev_int (rd_ixT (atI_nat (j := 0) rfl))) g3.s fun v9 G4 H4 g4 h_holder => ?_
          have h_row_here := h_row_here.mono g4.g
          refine q_asg (EvM.dat (evm_is ((fun h_place => (ev_sl (ev_var rfl h_row_here) eo_none (eo_some (ev_cb (ea_cons ev_int (ea_cons (ev_var rfl h_place) ea_nil)) cd_max2)))) (i_place _)) (cut_row' (r := r) (n := max i 2) (by split <;> omega)))) g4.s fun v10 G5 H5 g5 h_row_here => ?_
          have h_holder := h_holder.mono g5.g
          have gT := (((gg.trans g1).trans g2).trans g3).trans (g4.trans g5)
          refine s_if ((fun h_place => (et_test (ev_op (ev_var rfl h_place) ev_int rd_eqI))) (i_place _)) g5.s (fun hb0 G6 H6 g6 => ?_) (fun hb0 G6 H6 g6 => ?_)
          · have h0 : i = 0 := by have := of_decide_eq_true hb0; omega
            refine s_ret (ev_var rfl (h_holder.mono g6.g)) g6.s fun v11 G7 H7 g7 hv => k v11 G7 H7 ((gT.trans g6).trans g7) ?_
            rw [if_pos h0] at he
            rw [← he]; exact hv
          · have h0 : ¬ i = 0 := by have := of_decide_eq_false hb0; omega
            rw [if_neg h0] at he
            exact ⟨G6, gT.trans g6, v10, v9, _, _, _, _, _, rfl, h_row_here.mono g6.g, h_holder.mono g6.g, hpre.take hir, he⟩
        · have hne : payL r hh ab pr = [] := by
            cases e : payL r hh ab pr with
            | nil => rfl
            | cons a t => rw [e] at hb; cases hb
          rw [end_cons] at he
          rw [if_pos hne] at he
          exact ⟨G2, (gg.trans g1).trans g2, u0, u1, _, _, _, r, hh, rfl, h_row_here.mono g2.g, h_holder.mono g2.g, hpre, he⟩
    · obtain ⟨u0, u1, v5, v6, v7, r, hh, rfl, h_row_here, h_holder, hpre, he⟩ := p
      rw [List.length_map, List.drop_length] at he
      refine s_ret (ev_var rfl h_holder) gg.s fun v9 G5 H5 g5 hv => k v9 G5 H5 (gg.trans g5) ?_
      rw [← he]; exact hv

def spLaw (K : PySem.W.Frag) : Sp := fun vs H Q _ => ∃ (a : Addr) (ns : List Int), vs = [.ref a] ∧ SqL K H a (ns.map V.int) ∧ ns.length ≤ 63 ∧ (∀ z ∈ ns, Builtin.Int.intBits z ≤ 1048576) ∧ ∀ H', Q (.bl true) H'
theorem nobody_sm : Sm "nobody" := fun c hc => by rw [nobody_cps] at hc; revert c; decide
theorem canLay_S {zs : List Str} (h : ∀ z ∈ zs, Sm z) : PyData.canLayAll0 (zs.map .str) = true ∧ PyData.depthAll (zs.map .str) ≤ 4 := by
  induction zs with
  | nil => exact ⟨rfl, by show PyData.depthAll [] ≤ 4; unfold PyData.depthAll; omega⟩
  | cons z zs ih =>
    obtain ⟨a, b⟩ := ih fun x hx => h x (by simp [hx])
    have h1 : PyData.strOk z = true := (h z (by simp)).ok
    refine ⟨?_, ?_⟩
    · rw [List.map_cons, PyData.canLayAll0, a]; simp [PyData.canLay0, h1]
    · rw [List.map_cons]
      simp only [PyData.depthAll, PyData.depth]
      omega
theorem hand_ok {r : Rw} {ab : List Str} (h : ∀ p ∈ r, NmOk p.1) (hs : ∀ z ∈ ab, Sm z) : SeqAt.shaped (.list [.list (encR r), .list (ab.map .str)]) = true := by
  have h1 := canLay_row h
  have h2 := depth_row (r := r)
  obtain ⟨h3, h4⟩ := canLay_S hs
  unfold SeqAt.shaped
  rw [Bool.and_eq_true]
  refine ⟨by simp [PyData.canLay0, PyData.canLayAll0, h1, h3], decide_eq_true ?_⟩
  simp only [PyData.depth, PyData.depthAll]
  omega
theorem ableM_ok {fs : List Int} : (∀ z ∈ ableM fs, Sm z) ∧ (ableM fs).length ≤ 9 := by
  refine ⟨fun z hz => ?_, ?_⟩
  · unfold ableM at hz
    obtain ⟨i, _, rfl⟩ := List.mem_map.mp hz
    exact (nm_ok _ _).sm
  · unfold ableM
    rw [List.length_map]
    exact Nat.le_trans (List.length_filter_le _ _) (by simp)
theorem cut_feed {fs : List Int} (h : FeedOk fs) : cutD (fs.map PyData.int) (some 32) (some 41) = ((fs.drop 32).take 9).map .int ∧ ((fs.drop 32).take 9).length = 9 := by
  have hl := h.lo
  refine ⟨?_, by rw [List.length_take, List.length_drop]; omega⟩
  unfold cutD
  have e1 : HT.sIx (fs.map PyData.int).length 0 (some 32) = 32 := by
    have := HT.sIx_nat (fs.map PyData.int).length 0 32
    rw [List.length_map] at this ⊢
    have e : ((32 : Nat) : Int) = 32 := rfl
    rw [e] at this
    rw [this]; omega
  have e2 : HT.sIx (fs.map PyData.int).length (fs.map PyData.int).length (some 41) = 41 := by
    have := HT.sIx_nat (fs.map PyData.int).length (fs.map PyData.int).length 41
    rw [List.length_map] at this ⊢
    have e : ((41 : Nat) : Int) = 41 := rfl
    rw [e] at this
    rw [this]; omega
  rw [e1, e2, List.map_take, List.map_drop]
theorem ok_Law (T : Txt K mg A) : FnOk P w K mg base CX0 25 A.a_Law A.d_Law ["_law_script"] (spLaw K) := by
  have G_Lfeed := ok_Lfeed (P := P) (w := w) (base := base) T
  have G_Lname := ok_Lname (P := P) (w := w) (base := base) T
  have G_Lrow := ok_Lrow (P := P) (w := w) (base := base) T
  have G_Lable_names := ok_Lable_names (P := P) (w := w) (base := base) T
  have G_bearer_of := ok_bearer_of (P := P) (w := w) (base := base) T
  have G_Lend := ok_Lend (P := P) (w := w) (base := base) T
  have G_Lwalked := ok_Lwalked (P := P) (w := w) (base := base) T
  have G_runs_of : FnOk P w K mg base CX0 13 A.a_runs_of A.d_runs_of ["row", "holder", "able", "protested"] (spRuns 8) := ok_runs_of T 9
  refine T.F_Law.ok sc_Law (fun vs H Q E h => ?_) (fun cdv A' outer s H vs Q E hr h => ?_)
  · obtain ⟨a, ns, rfl, _⟩ := h
    rfl
  · obtain ⟨a, ns, rfl, hS, hlen, _, k⟩ := h
    refine ⟨_, (pss_cons (ps_set (i := 1) sc_Law.nd rfl (Or.inl rfl) (pe_call G_Lfeed (hr.mono (by omega)) (by rfl) T.m_Lfeed T.F_Lfeed.kp T.b_Lfeed .nil pass0 (pa_cons (pv 0) pa_nil)))
      (pss_cons (ps_set (i := 2) sc_Law.nd rfl (Or.inl rfl) (pe_call G_Lrow (hr.mono (by omega)) (by rfl) T.m_Lrow T.F_Lrow.kp T.b_Lrow .nil pass0 (pa_cons (pv 1) pa_nil)))
      (pss_cons (ps_set (i := 3) sc_Law.nd rfl (Or.inl rfl) (pe_call G_Lable_names (hr.mono (by omega)) (by rfl) T.m_Lable_names T.F_Lable_names.kp T.b_Lable_names .nil pass0 (pa_cons (pv 1) pa_nil)))
      (pss_cons (ps_for PassesOwn.never rfl (pi_tup (pe_tup (pa_cons (pe_call G_Lname (hr.mono (by omega)) (by rfl) T.m_Lname T.F_Lname.kp T.b_Lname .nil pass0 (pa_cons (pe_ix (ix_listK (K := K)) (pv 1) pe_int (fun _ _ => rfl)) (pa_cons (pe_op op_mod (pe_ix (ix_listK (K := K)) (pv 1) pe_int (fun _ _ => rfl)) pe_int) pa_nil))) (pa_cons pe_str pa_nil)))) (pg_name (i := 4) sc_Law.nd rfl (Or.inl rfl))
      (pss_one (ps_for PassesOwn.never rfl (pi_tup (pe_tup (pa_cons pe_bl (pa_cons pe_bl pa_nil)))) (pg_name (i := 5) sc_Law.nd rfl (Or.inl rfl))
      (pss_cons (ps_set (i := 6) sc_Law.nd rfl (Or.inl rfl) (pe_lst (pa_cons (pe_callTy (call_listK (K := K)) (by rfl) T.b.list (by decide +kernel) (pa_cons (pv 2) pa_nil)) (pa_cons (pe_callTy (call_listK (K := K)) (by rfl) T.b.list (by decide +kernel) (pa_cons (pv 3) pa_nil)) pa_nil))))
      (pss_cons (ps_set (i := 7) sc_Law.nd rfl (Or.inl rfl) (pe_call G_bearer_of (hr.mono (by omega)) (by rfl) T.m_bearer_of T.F_bearer_of.kp T.b_bearer_of .nil pass0 (pa_cons (pe_ix (ix_listK (K := K)) (pv 6) pe_int (fun _ _ => rfl)) (pa_cons (pv 4) (pa_cons (pe_ix (ix_listK (K := K)) (pv 6) pe_int (fun _ _ => rfl)) (pa_cons (pv 5) pa_nil))))))
      (pss_cons (ps_if (PW.pt (pw_or (pt_not (pt_val (pe_callB (call_isiKK (K := K)) (by rfl) T.b.isinstance (by decide +kernel) (pa_cons (pv 7) (pa_cons (pe_bltn (by rfl) T.b.str_ (by decide +kernel) (v := .ty "str") rfl) pa_nil))))) (pw_or1 (pt_cmpR (op_neDK (K := K) hr.units) (pv 6) (pe_lst (pa_cons (pv 2) (pa_cons (pv 3) pa_nil))) (nomark _)))))
      (pss_one (ps_ret pe_bl))
      pss_nil)
      (pss_cons (ps_for PassesOwn.never rfl (pi_tup (pe_tup (pa_cons (pe_op op_rep (pe_lst (pa_cons pe_int pa_nil)) pe_int) (pa_cons (pe_op op_rep (pe_lst (pa_cons (pe_un un_neg pe_int) pa_nil)) pe_int) (pa_cons (pe_slice (sl_listK (K := K)) (pv 1) (po_some pe_int) (po_some pe_int)) pa_nil))))) (pg_name (i := 8) sc_Law.nd rfl (Or.inl rfl))
      (pss_one (ps_if (pt_cmpR op_ne (pe_call G_Lend (hr.mono (by omega)) (by rfl) T.m_Lend T.F_Lend.kp T.b_Lend .nil pass0 (pa_cons (pv 2) (pa_cons (pv 4) (pa_cons (pv 3) (pa_cons (pv 5) (pa_cons (pv 8) pa_nil)))))) (pv 7) (nomark _))
      (pss_one (ps_ret pe_bl))
      pss_nil)))
      (pss_one (ps_for PassesOwn.never rfl (pi_list (pe_call G_runs_of (hr.mono (by omega)) (by rfl) T.m_runs_of T.F_runs_of.kp T.b_runs_of .nil pass0 (pa_cons (pe_ix (ix_listK (K := K)) (pv 6) pe_int (fun _ _ => rfl)) (pa_cons (pv 4) (pa_cons (pe_ix (ix_listK (K := K)) (pv 6) pe_int (fun _ _ => rfl)) (pa_cons (pv 5) pa_nil)))))) (pg_name (i := 9) sc_Law.nd rfl (Or.inl rfl))
      (pss_one (ps_if (PW.pt (pw_or (pt_cmpR op_ne (pe_call G_Lwalked (hr.mono (by omega)) (by rfl) T.m_Lwalked T.F_Lwalked.kp T.b_Lwalked .nil pass0 (pa_cons (pv 2) (pa_cons (pv 4) (pa_cons (pv 9) pa_nil)))) (pv 7) (nomark _)) (pw_or1 (pt_cmpR (op_neDK (K := K) hr.units) (pv 6) (pe_lst (pa_cons (pv 2) (pa_cons (pv 3) pa_nil))) (nomark _)))))
      (pss_one (ps_ret pe_bl))
      pss_nil)))))))))))
      (pss_one (ps_ret pe_bl)))))), ?_⟩
    refine q_feed rfl hS hlen fun l fs G1 H1 hok g1 h_feed_here => ?_
    refine q_asg (EvM.dat (ev_callME (es := encR (rowM fs)) fs (ea_cons (ev_var rfl h_feed_here) ea_nil) hok rfl)) g1.s fun vr G2 H2 g2 h_row_here => ?_
    have h_feed_here := h_feed_here.mono g2.g
    have hr8 := rowM_ok (fs := fs)
    have hab := ableM_ok (fs := fs)
    refine q_asg (EvM.dat (ev_callME (es := (ableM fs).map .str) fs (ea_cons (ev_var rfl h_feed_here) ea_nil) hok rfl)) g2.s fun va G3 H3 g3 h_able => ?_
    have h_feed_here := h_feed_here.mono g3.g
    have h_row_here := h_row_here.mono g3.g
    generalize rowM fs = r at h_row_here hr8
    generalize ableM fs = ab at h_able hab
    have hr1 := hr8.hi
    have hsh := hand_ok hr8.nm hab.1
    refine q_forT [] (fun n σ' G' H' => ∃ (v4 v5 v6 v7 v8 v9 : Option V), σ' = [some (.ref a), some (.ref l), some vr, some va, v4, v5, v6, v7, v8, v9])
      (ds := [.str (nm (nth fs 2) (nth fs 31 % 9)), .str "nobody"]) (ev_tup (ea_cons (ev_callE (nth fs 2, nth fs 31 % 9) (ea_cons (ev_op (ev_var rfl h_feed_here) ev_int (rd_ixL (by walk_at "at"))) (ea_cons (ev_op (ev_op (ev_var rfl h_feed_here) ev_int (rd_ixL (by walk_at "at"))) ev_int (rd_mod (by walk_at "arith"))) ea_nil)) ⟨nth_ok hok (by omega) (by omega), by constructor <;> omega⟩ rfl) (ea_cons ev_str ea_nil)) (by show 2 ≤ 100000; decide))
      g3.s (fun G5 H5 g5 => ⟨none, none, none, none, none, none, rfl⟩) (fun G5 H5 g5 n d u σ' G' H' hd hu gg p => ?_) (fun σ' G' H' gg p => ?_)
    · obtain ⟨v4, v5, v6, v7, v8, v9, rfl⟩ := p
      obtain ⟨z, rfl, hz⟩ : ∃ z, d = .str z ∧ Sm z := by
        rcases n with _ | _ | n
        · exact ⟨_, (Option.some.inj hd).symm, (nm_ok _ _).sm⟩
        · exact ⟨_, (Option.some.inj hd).symm, nobody_sm⟩
        · cases hd
      have hpre : PreR 8 r z := ⟨hr8.nm, hr1, hz, Nat.le_trans (reachM_le r z) hr1⟩
      have hpw : PreW r z := ⟨hr8.nm, hr1, hz⟩
      have g55 := g5.trans gg
      have h_feed_here := h_feed_here.mono g55.g
      have h_row_here := h_row_here.mono g55.g
      have h_able := h_able.mono g55.g
      refine s_forT [] (fun m σ' G' H' => ∃ (v5 v6 v7 v8 v9 : Option V), σ' = [some (.ref a), some (.ref l), some vr, some va, some u, v5, v6, v7, v8, v9])
        (ds := [.bool true, .bool false]) (ev_tup (ea_cons ev_bl (ea_cons ev_bl ea_nil)) (by walk_at "arith")) gg.s (fun G7 H7 g7 => ⟨v5, v6, v7, v8, v9, rfl⟩) (fun G7 H7 g7 m d u2 σ' G' H' hd hu2 g8 p => ?_) (fun σ' G' H' g8 p => ?_)
      · obtain ⟨v5, v6, v7, v8, v9, rfl⟩ := p
        obtain ⟨pr, rfl⟩ : ∃ pr, d = .bool pr := by
          rcases m with _ | _ | m
          · exact ⟨true, (Option.some.inj hd).symm⟩
          · exact ⟨false, (Option.some.inj hd).symm⟩
          · cases hd
        obtain rfl := hu2.bl_eq
        have g78 := g7.trans g8
        have h_holder := hu.mono g78.g
        have h_feed_here := h_feed_here.mono g78.g
        have h_row_here := h_row_here.mono g78.g
        have h_able := h_able.mono g78.g
        have h_protested : ∀ G, Dx G (.bl pr) (.bool pr) := fun _ => .bl _
        refine q_asg ((ev_lst (ea_cons ((ev_cbM (ea_cons (ev_var rfl h_row_here) ea_nil) cd_listL)).dat (ea_cons ((ev_cbM (ea_cons (ev_var rfl h_able) ea_nil) cd_listL)).dat ea_nil)) (by walk_at "arith"))).dat g8.s fun vh G9 H9 g9 h_handed => ?_
        have h_holder := h_holder.mono g9.g
        have h_feed_here := h_feed_here.mono g9.g
        have h_row_here := h_row_here.mono g9.g
        have h_able := h_able.mono g9.g
        have ix0 : ∀ {G H : Hp}, Dx G vh (.list [.list (encR r), .list (ab.map .str)]) → ∀ {x7 x8 x9 : Option V}, EvD (tOp (rIxL K) (tVar 6) (tC (.int 0))) [some (.ref a), some (.ref l), some vr, some va, some u, some (.bl pr), some vh, x7, x8, x9] G H (.list (encR r)) := fun hh => ev_op (ev_var rfl hh) ev_int (rd_ixL (atI_nat (j := 0) rfl))
        have ix1 : ∀ {G H : Hp}, Dx G vh (.list [.list (encR r), .list (ab.map .str)]) → ∀ {x7 x8 x9 : Option V}, EvD (tOp (rIxL K) (tVar 6) (tC (.int 1))) [some (.ref a), some (.ref l), some vr, some va, some u, some (.bl pr), some vh, x7, x8, x9] G H (.list (ab.map .str)) := fun hh => ev_op (ev_var rfl hh) ev_int (rd_ixL (atI_nat (j := 1) rfl))
        refine q_asg (ev_callE (d := .str (bearM r z ab pr)) (r, z, ab, pr) (ea_cons (ix0 h_handed) (ea_cons (ev_var rfl h_holder) (ea_cons (ix1 h_handed) (ea_cons (ev_var rfl (h_protested _)) ea_nil)))) hpw rfl) g9.s fun vd G10 H10 g10 h_due => ?_
        obtain rfl := h_due.str_eq
        have i_due : ∀ G, Dx G (.str (bearM r z ab pr)) (.str (bearM r z ab pr)) := fun _ => .str _
        have h_holder := h_holder.mono g10.g
        have h_feed_here := h_feed_here.mono g10.g
        have h_row_here := h_row_here.mono g10.g
        have h_able := h_able.mono g10.g
        have h_handed := h_handed.mono g10.g
        have neH : ∀ {G H : Hp}, Dx G vh (.list [.list (encR r), .list (ab.map .str)]) → Dx G vr (.list (encR r)) → Dx G va (.list (ab.map .str)) → ∀ {x7 x8 x9 : Option V}, EvT (tTest (tOp (rNeD K) (tVar 6) (tLst (tCons (tVar 2) (tCons (tVar 3) tNil))))) [some (.ref a), some (.ref l), some vr, some va, some u, some (.bl pr), some vh, x7, x8, x9] G H false := fun hh hr' ha' => et_test (ev_is (ev_op (ev_var rfl hh) (ev_lst (ea_cons (ev_var rfl hr') (ea_cons (ev_var rfl ha') ea_nil)) (by show 2 ≤ 100000; decide)).dat (rd_neD hsh hsh)) (by rw [SeqAt.eqv_refl _ (SeqAt.canLay_of_shaped hsh)]; rfl))
        refine q_when (b := false) (evt_is (et_or (b := false) (c := false) (evt_is (et_not (et_B (ev_isi (ev_var rfl (i_due _)) kit_str_str))) rfl) (fun _ => neH h_handed h_row_here h_able)) rfl) g10.s (fun hb => by cases hb) (fun _ G11 H11 g11 => ?_)
        have h_holder := h_holder.mono g11.g
        have h_feed_here := h_feed_here.mono g11.g
        have h_row_here := h_row_here.mono g11.g
        have h_able := h_able.mono g11.g
        have h_handed := h_handed.mono g11.g
        obtain ⟨ec, elc⟩ := cut_feed hok
        have k9 : ∀ i : Int, (List.replicate (9 : Int).toNat [PyData.int i]).flatten = (List.replicate 9 i).map PyData.int := fun i => rfl
        have hre9 : ∀ ks : List Int, ks.length = 9 → endM ab pr ks r z = bearM r z ab pr := fun ks hk => end_bear ks r z (by have := hpre.re; omega)
        refine q_forT [] (fun c σ' G' H' => ∃ (v8 v9 : Option V), σ' = [some (.ref a), some (.ref l), some vr, some va, some u, some (.bl pr), some vh, some (.str (bearM r z ab pr)), v8, v9])
          (ds := [.list ((List.replicate 9 (0 : Int)).map .int), .list ((List.replicate 9 (-1 : Int)).map .int), .list (((fs.drop 32).take 9).map .int)])
          (ev_tup (ea_cons (EvM.dat (evm_is (ev_opM (ev_lst (ea_cons ev_int ea_nil) (by show 1 ≤ 100000; decide)).dat ev_int (rd_rep (by decide) (by decide) (by decide))) (k9 0)))
            (ea_cons (EvM.dat (evm_is (ev_opM (ev_lst (ea_cons (ev_neg ev_int) ea_nil) (by show 1 ≤ 100000; decide)).dat ev_int (rd_rep (by decide) (by decide) (by decide))) (k9 (-1))))
            (ea_cons (EvM.dat (evm_is (ev_sl (ev_var rfl h_feed_here) (eo_some ev_int) (eo_some ev_int)) ec)) ea_nil))) (by show 3 ≤ 100000; decide))
          g11.s (fun G12 H12 g12 => ⟨v8, v9, rfl⟩) (fun G12 H12 g12 c d u3 σ' G' H' hd hu3 gg2 p => ?_) (fun σ' G' H' gg2 p => ?_)
        · obtain ⟨v8, v9, rfl⟩ := p
          obtain ⟨ks, rfl, hks⟩ : ∃ ks : List Int, d = .list (ks.map .int) ∧ ks.length = 9 := by
            rcases c with _ | _ | _ | c
            · exact ⟨_, (Option.some.inj hd).symm, rfl⟩
            · exact ⟨_, (Option.some.inj hd).symm, rfl⟩
            · exact ⟨_, (Option.some.inj hd).symm, elc⟩
            · cases hd
          have g13 := g12.trans gg2
          refine s_if (b := false) (et_test (ev_is (ev_op (ev_callE (d := .str (bearM r z ab pr)) (r, z, ab, pr, ks) (ea_cons (ev_var rfl (h_row_here.mono g13.g)) (ea_cons (ev_var rfl (h_holder.mono g13.g)) (ea_cons (ev_var rfl (h_able.mono g13.g)) (ea_cons (ev_var rfl (h_protested _)) (ea_cons (ev_var rfl hu3) ea_nil))))) hpw (by show PyData.str (endM ab pr ks r z) = _; rw [hre9 ks hks])) (ev_var rfl (i_due _)) rd_neS) (by rw [decide_eq_true rfl]; rfl))) gg2.s (fun hb => by cases hb) (fun _ G14 H14 g14 => ?_)
          exact ⟨G14, gg2.trans g14, _, _, rfl⟩
        · obtain ⟨v8, v9, rfl⟩ := p
          have h_holder := h_holder.mono gg2.g
          have h_row_here := h_row_here.mono gg2.g
          have h_able := h_able.mono gg2.g
          have h_handed := h_handed.mono gg2.g
          refine s_forL [] (fun c σ' G' H' => ∃ (v9 : Option V), σ' = [some (.ref a), some (.ref l), some vr, some va, some u, some (.bl pr), some vh, some (.str (bearM r z ab pr)), v8, v9])
            (ds := encU (runsM ab pr 8 r z)) (ev_runs (ea_cons (ix0 h_handed) (ea_cons (ev_var rfl h_holder) (ea_cons (ix1 h_handed) (ea_cons (ev_var rfl (h_protested _)) ea_nil)))) hpre) gg2.s (fun G15 H15 g15 => ⟨v9, rfl⟩) (fun G15 H15 g15 c d u4 σ' G' H' hd hu4 gg3 p => ?_) (fun σ' G' H' gg3 p => ?_)
          · obtain ⟨v9, rfl⟩ := p
            unfold encU at hd
            rw [List.getElem?_map] at hd
            cases eu : (runsM ab pr 8 r z)[c]? with
            | none => rw [eu] at hd; cases hd
            | some ru =>
              rw [eu] at hd
              obtain rfl := (Option.some.inj hd).symm
              obtain ⟨w1, w2⟩ := runs_walk 8 r z ru hpre.re (List.mem_of_getElem? eu)
              have g16 := g15.trans gg3
              refine s_if (b := false) (evt_is (et_or (b := false) (c := false) (et_test (ev_is (ev_op (ev_callE (d := .str (bearM r z ab pr)) (r, z, ru) (ea_cons (ev_var rfl (h_row_here.mono g16.g)) (ea_cons (ev_var rfl (h_holder.mono g16.g)) (ea_cons (ev_var rfl hu4) ea_nil))) ⟨hpw, w1⟩ (by show PyData.str (walkM ru r z) = _; rw [w2])) (ev_var rfl (i_due _)) rd_neS) (by rw [decide_eq_true rfl]; rfl))) (fun _ => neH (h_handed.mono g16.g) (h_row_here.mono g16.g) (h_able.mono g16.g))) rfl) gg3.s (fun hb => by cases hb) (fun _ G17 H17 g17 => ?_)
              exact ⟨G17, gg3.trans g17, _, rfl⟩
          · obtain ⟨v9, rfl⟩ := p
            exact ⟨G', ((((g8.trans g9).trans g10).trans g11).trans gg2).trans gg3, _, _, _, _, _, rfl⟩
      · obtain ⟨v5, v6, v7, v8, v9, rfl⟩ := p
        exact ⟨G', gg.trans g8, _, _, _, _, _, _, rfl⟩
    · obtain ⟨v4, v5, v6, v7, v8, v9, rfl⟩ := p
      refine s_ret ev_bl gg.s fun v G4 H4 g4 hv => ?_
      obtain rfl := hv.bl_eq
      exact k H4

end
theorem all_mk {l : PySem.W.OpenLaw} {w : World} {K : PySem.W.Frag} {h : Heap} {mg : Str → Option Value} {fa f0 f1 f2 f3 f4 f5 f6 f7 f8 f9 f10 f11 f12 f13 f14 : Addr} (X : K.In h) (G : h.Ns mainGlobals mg) (hfa : mg "law" = some (.ref fa))
    {od0 an0 od1 an1 od2 an2 od3 an3 od4 an4 od5 an5 od6 an6 od7 an7 od8 an8 od9 an9 od10 an10 od11 an11 od12 an12 od13 an13 od14 an14 : Option Addr} {sl0 sl1 sl2 sl3 sl4 sl5 sl6 sl7 sl8 sl9 sl10 sl11 sl12 sl13 sl14 : Array (Option Value)} {oc0 kV0 dc0 pm0 cd0 ct0 oc1 kV1 dc1 pm1 cd1 ct1 oc2 kV2 dc2 pm2 cd2 ct2 oc3 kV3 dc3 pm3 cd3 ct3 oc4 kV4 dc4 pm4 cd4 ct4 oc5 kV5 dc5 pm5 cd5 ct5 oc6 kV6 dc6 pm6 cd6 ct6 oc7 kV7 dc7 pm7 cd7 ct7 oc8 kV8 dc8 pm8 cd8 ct8 oc9 kV9 dc9 pm9 cd9 ct9 oc10 kV10 dc10 pm10 cd10 ct10 oc11 kV11 dc11 pm11 cd11 ct11 oc12 kV12 dc12 pm12 cd12 ct12 oc13 kV13 dc13 pm13 cd13 ct13 oc14 kV14 dc14 pm14 cd14 ct14 : Value}
    {t_FIRST_SIGNED : Tok} (g_FIRST_SIGNED : PySem.W.nsIn K mainGlobals "FIRST_SIGNED" = some (some (.int 2 t_FIRST_SIGNED)))
    (a0 : PySem.W.nsIn K mainGlobals "reach" = some (some (.ref f0))) (l0 : K.lookup f0 = some ⟨oc0, od0, .func (PySem.W.fnOf "reach" "reach" (defArgs s_reach) (defBody s_reach) (defScope s_reach) .none kV0 dc0 pm0 an0 cd0 ct0), sl0⟩) (c0 : PySem.W.codeIn K cd0 "reach" = true) (k0 : PySem.W.keepIn K (.ref f0) = true)
    (a1 : PySem.W.nsIn K mainGlobals "askable" = some (some (.ref f1))) (l1 : K.lookup f1 = some ⟨oc1, od1, .func (PySem.W.fnOf "askable" "askable" (defArgs s_askable) (defBody s_askable) (defScope s_askable) .none kV1 dc1 pm1 an1 cd1 ct1), sl1⟩) (c1 : PySem.W.codeIn K cd1 "askable" = true) (k1 : PySem.W.keepIn K (.ref f1) = true)
    (a2 : PySem.W.nsIn K mainGlobals "returned" = some (some (.ref f2))) (l2 : K.lookup f2 = some ⟨oc2, od2, .func (PySem.W.fnOf "returned" "returned" (defArgs s_returned) (defBody s_returned) (defScope s_returned) .none kV2 dc2 pm2 an2 cd2 ct2), sl2⟩) (c2 : PySem.W.codeIn K cd2 "returned" = true) (k2 : PySem.W.keepIn K (.ref f2) = true)
    (a3 : PySem.W.nsIn K mainGlobals "payable" = some (some (.ref f3))) (l3 : K.lookup f3 = some ⟨oc3, od3, .func (PySem.W.fnOf "payable" "payable" (defArgs s_payable) (defBody s_payable) (defScope s_payable) .none kV3 dc3 pm3 an3 cd3 ct3), sl3⟩) (c3 : PySem.W.codeIn K cd3 "payable" = true) (k3 : PySem.W.keepIn K (.ref f3) = true)
    (a4 : PySem.W.nsIn K mainGlobals "runs_of" = some (some (.ref f4))) (l4 : K.lookup f4 = some ⟨oc4, od4, .func (PySem.W.fnOf "runs_of" "runs_of" (defArgs s_runs_of) (defBody s_runs_of) (defScope s_runs_of) .none kV4 dc4 pm4 an4 cd4 ct4), sl4⟩) (c4 : PySem.W.codeIn K cd4 "runs_of" = true) (k4 : PySem.W.keepIn K (.ref f4) = true)
    (a5 : PySem.W.nsIn K mainGlobals "bearer_of" = some (some (.ref f5))) (l5 : K.lookup f5 = some ⟨oc5, od5, .func (PySem.W.fnOf "bearer_of" "bearer_of" (defArgs s_bearer_of) (defBody s_bearer_of) (defScope s_bearer_of) .none kV5 dc5 pm5 an5 cd5 ct5), sl5⟩) (c5 : PySem.W.codeIn K cd5 "bearer_of" = true) (k5 : PySem.W.keepIn K (.ref f5) = true)
    (a6 : PySem.W.nsIn K mainGlobals "_law_feed" = some (some (.ref f6))) (l6 : K.lookup f6 = some ⟨oc6, od6, .func (PySem.W.fnOf "_law_feed" "_law_feed" (defArgs s_Lfeed) (defBody s_Lfeed) (defScope s_Lfeed) .none kV6 dc6 pm6 an6 cd6 ct6), sl6⟩) (c6 : PySem.W.codeIn K cd6 "_law_feed" = true) (k6 : PySem.W.keepIn K (.ref f6) = true)
    (a7 : PySem.W.nsIn K mainGlobals "_law_name" = some (some (.ref f7))) (l7 : K.lookup f7 = some ⟨oc7, od7, .func (PySem.W.fnOf "_law_name" "_law_name" (defArgs s_Lname) (defBody s_Lname) (defScope s_Lname) .none kV7 dc7 pm7 an7 cd7 ct7), sl7⟩) (c7 : PySem.W.codeIn K cd7 "_law_name" = true) (k7 : PySem.W.keepIn K (.ref f7) = true)
    (a8 : PySem.W.nsIn K mainGlobals "_law_reach" = some (some (.ref f8))) (l8 : K.lookup f8 = some ⟨oc8, od8, .func (PySem.W.fnOf "_law_reach" "_law_reach" (defArgs s_Lreach) (defBody s_Lreach) (defScope s_Lreach) .none kV8 dc8 pm8 an8 cd8 ct8), sl8⟩) (c8 : PySem.W.codeIn K cd8 "_law_reach" = true) (k8 : PySem.W.keepIn K (.ref f8) = true)
    (a9 : PySem.W.nsIn K mainGlobals "_law_askable" = some (some (.ref f9))) (l9 : K.lookup f9 = some ⟨oc9, od9, .func (PySem.W.fnOf "_law_askable" "_law_askable" (defArgs s_Laskable) (defBody s_Laskable) (defScope s_Laskable) .none kV9 dc9 pm9 an9 cd9 ct9), sl9⟩) (c9 : PySem.W.codeIn K cd9 "_law_askable" = true) (k9 : PySem.W.keepIn K (.ref f9) = true)
    (a10 : PySem.W.nsIn K mainGlobals "_law_row" = some (some (.ref f10))) (l10 : K.lookup f10 = some ⟨oc10, od10, .func (PySem.W.fnOf "_law_row" "_law_row" (defArgs s_Lrow) (defBody s_Lrow) (defScope s_Lrow) .none kV10 dc10 pm10 an10 cd10 ct10), sl10⟩) (c10 : PySem.W.codeIn K cd10 "_law_row" = true) (k10 : PySem.W.keepIn K (.ref f10) = true)
    (a11 : PySem.W.nsIn K mainGlobals "_law_able_names" = some (some (.ref f11))) (l11 : K.lookup f11 = some ⟨oc11, od11, .func (PySem.W.fnOf "_law_able_names" "_law_able_names" (defArgs s_Lable_names) (defBody s_Lable_names) (defScope s_Lable_names) .none kV11 dc11 pm11 an11 cd11 ct11), sl11⟩) (c11 : PySem.W.codeIn K cd11 "_law_able_names" = true) (k11 : PySem.W.keepIn K (.ref f11) = true)
    (a12 : PySem.W.nsIn K mainGlobals "_law_end" = some (some (.ref f12))) (l12 : K.lookup f12 = some ⟨oc12, od12, .func (PySem.W.fnOf "_law_end" "_law_end" (defArgs s_Lend) (defBody s_Lend) (defScope s_Lend) .none kV12 dc12 pm12 an12 cd12 ct12), sl12⟩) (c12 : PySem.W.codeIn K cd12 "_law_end" = true) (k12 : PySem.W.keepIn K (.ref f12) = true)
    (a13 : PySem.W.nsIn K mainGlobals "_law_walked" = some (some (.ref f13))) (l13 : K.lookup f13 = some ⟨oc13, od13, .func (PySem.W.fnOf "_law_walked" "_law_walked" (defArgs s_Lwalked) (defBody s_Lwalked) (defScope s_Lwalked) .none kV13 dc13 pm13 an13 cd13 ct13), sl13⟩) (c13 : PySem.W.codeIn K cd13 "_law_walked" = true) (k13 : PySem.W.keepIn K (.ref f13) = true)
    (a14 : PySem.W.nsIn K mainGlobals "law" = some (some (.ref f14))) (l14 : K.lookup f14 = some ⟨oc14, od14, .func (PySem.W.fnOf "law" "law" (defArgs s_Law) (defBody s_Law) (defScope s_Law) .none kV14 dc14 pm14 an14 cd14 ct14), sl14⟩) (c14 : PySem.W.codeIn K cd14 "law" = true) (k14 : PySem.W.keepIn K (.ref f14) = true)
    (z_len : PySem.W.nsIn K mainGlobals "len" = some none)
    (z_range : PySem.W.nsIn K mainGlobals "range" = some none)
    (z_abs : PySem.W.nsIn K mainGlobals "abs" = some none)
    (z_int : PySem.W.nsIn K mainGlobals "int" = some none)
    (z_sum : PySem.W.nsIn K mainGlobals "sum" = some none)
    (z_isinstance : PySem.W.nsIn K mainGlobals "isinstance" = some none)
    (z_tuple : PySem.W.nsIn K mainGlobals "tuple" = some none)
    (z_list : PySem.W.nsIn K mainGlobals "list" = some none)
    (z_all : PySem.W.nsIn K mainGlobals "all" = some none)
    (z_bool : PySem.W.nsIn K mainGlobals "bool" = some none)
    (z_max : PySem.W.nsIn K mainGlobals "max" = some none)
    (z_enumerate : PySem.W.nsIn K mainGlobals "enumerate" = some none)
    (z_sorted : PySem.W.nsIn K mainGlobals "sorted" = some none)
    (z_str : PySem.W.nsIn K mainGlobals "str" = some none)
    : ∃ fd : FuncData, (∀ (s : Shared) (v : Value), BindsTo s fd ⟨[v], []⟩ [("_law_script", v)]) ∧ ∀ base : Heap, K.In base → base.Ns mainGlobals mg → FnOk l.prog w K mg base CX0 25 fa fd ["_law_script"] (spLaw K) := by
  have e := hfa.symm.trans (PySem.W.mg_of X G a14)
  cases e
  have F0 := fun_mk (st := s_reach) l0 c0 k0
  have b0 := F0.binds (ps := ["row", "house"]) fun _ _ _ _ _ _ us hl => match us, hl with | [_, _], _ => rfl
  have F1 := fun_mk (st := s_askable) l1 c1 k1
  have b1 := F1.binds (ps := ["row", "holder", "protested"]) fun _ _ _ _ _ _ us hl => match us, hl with | [_, _, _], _ => rfl
  have F2 := fun_mk (st := s_returned) l2 c2 k2
  have b2 := F2.binds (ps := ["row", "place"]) fun _ _ _ _ _ _ us hl => match us, hl with | [_, _], _ => rfl
  have F3 := fun_mk (st := s_payable) l3 c3 k3
  have b3 := F3.binds (ps := ["row", "holder", "able", "protested"]) fun _ _ _ _ _ _ us hl => match us, hl with | [_, _, _, _], _ => rfl
  have F4 := fun_mk (st := s_runs_of) l4 c4 k4
  have b4 := F4.binds (ps := ["row", "holder", "able", "protested"]) fun _ _ _ _ _ _ us hl => match us, hl with | [_, _, _, _], _ => rfl
  have F5 := fun_mk (st := s_bearer_of) l5 c5 k5
  have b5 := F5.binds (ps := ["row", "holder", "able", "protested"]) fun _ _ _ _ _ _ us hl => match us, hl with | [_, _, _, _], _ => rfl
  have F6 := fun_mk (st := s_Lfeed) l6 c6 k6
  have b6 := F6.binds (ps := ["_law_script"]) fun _ _ _ _ _ _ us hl => match us, hl with | [_], _ => rfl
  have F7 := fun_mk (st := s_Lname) l7 c7 k7
  have b7 := F7.binds (ps := ["_law_pick", "_law_k"]) fun _ _ _ _ _ _ us hl => match us, hl with | [_, _], _ => rfl
  have F8 := fun_mk (st := s_Lreach) l8 c8 k8
  have b8 := F8.binds (ps := ["_law_row_here", "_law_house"]) fun _ _ _ _ _ _ us hl => match us, hl with | [_, _], _ => rfl
  have F9 := fun_mk (st := s_Laskable) l9 c9 k9
  have b9 := F9.binds (ps := ["_law_row_here", "_law_holder", "_law_protested"]) fun _ _ _ _ _ _ us hl => match us, hl with | [_, _, _], _ => rfl
  have F10 := fun_mk (st := s_Lrow) l10 c10 k10
  have b10 := F10.binds (ps := ["_law_feed_here"]) fun _ _ _ _ _ _ us hl => match us, hl with | [_], _ => rfl
  have F11 := fun_mk (st := s_Lable_names) l11 c11 k11
  have b11 := F11.binds (ps := ["_law_feed_here"]) fun _ _ _ _ _ _ us hl => match us, hl with | [_], _ => rfl
  have F12 := fun_mk (st := s_Lend) l12 c12 k12
  have b12 := F12.binds (ps := ["_law_row_here", "_law_holder", "_law_able", "_law_protested", "_law_picks"]) fun _ _ _ _ _ _ us hl => match us, hl with | [_, _, _, _, _], _ => rfl
  have F13 := fun_mk (st := s_Lwalked) l13 c13 k13
  have b13 := F13.binds (ps := ["_law_row_here", "_law_holder", "_law_run"]) fun _ _ _ _ _ _ us hl => match us, hl with | [_, _, _], _ => rfl
  have F14 := fun_mk (st := s_Law) l14 c14 k14
  have b14 := F14.binds (ps := ["_law_script"]) fun _ _ _ _ _ _ us hl => match us, hl with | [_], _ => rfl
  refine ⟨_, fun s v => .of_eq rfl, fun base _ _ => ok_Law (A := ⟨_, _, _, _, _, _, _, _, _, _, _, _, _, _, _, _, _, _, _, _, _, _, _, _, _, _, _, _, _, _, _⟩) ⟨⟨PySem.W.mg_none_of X G z_len, PySem.W.mg_none_of X G z_range, PySem.W.mg_none_of X G z_abs, PySem.W.mg_none_of X G z_int, PySem.W.mg_none_of X G z_sum, PySem.W.mg_none_of X G z_isinstance, PySem.W.mg_none_of X G z_tuple, PySem.W.mg_none_of X G z_list, PySem.W.mg_none_of X G z_all, PySem.W.mg_none_of X G z_bool, PySem.W.mg_none_of X G z_max, PySem.W.mg_none_of X G z_enumerate, PySem.W.mg_none_of X G z_sorted, PySem.W.mg_none_of X G z_str⟩, PySem.W.mg_of X G g_FIRST_SIGNED, PySem.W.mg_of X G a0, F0, b0, PySem.W.mg_of X G a1, F1, b1, PySem.W.mg_of X G a2, F2, b2, PySem.W.mg_of X G a3, F3, b3, PySem.W.mg_of X G a4, F4, b4, PySem.W.mg_of X G a5, F5, b5, PySem.W.mg_of X G a6, F6, b6, PySem.W.mg_of X G a7, F7, b7, PySem.W.mg_of X G a8, F8, b8, PySem.W.mg_of X G a9, F9, b9, PySem.W.mg_of X G a10, F10, b10, PySem.W.mg_of X G a11, F11, b11, PySem.W.mg_of X G a12, F12, b12, PySem.W.mg_of X G a13, F13, b13, PySem.W.mg_of X G a14, F14, b14⟩⟩
end My
open PySem PySem.W PyProof.Rows
set_option maxRecDepth 100000 in
set_option maxHeartbeats 0 in
theorem PySem.Challenge.cw_allonge_k06_whole_one_bearer_holds : PySem.Challenge.rw_allonge_k06_whole_one_bearer.Holds := by
  w_on; o_law; k_head; (case hw => w_witness2)
  k_fill
  refine L2.walk_ofB (l := PySem.Challenge.rw_allonge_k06_whole_one_bearer) (n := 63) (k := 25) (x := "_law_script") (CX := fun _ => L2.CX0) (sp := fun w => My.spLaw _) rfl (by decide) rfl ⟨rfl, by decide, by decide⟩ (fun w h Y => PySem.W.kIn_of Y) ?F (fun _ _ a ns hl hb _ hS => ⟨a, ns, rfl, hS, hl, hb, fun _ => rfl⟩) (fun _ _ _ _ _ h => h)
  case F =>
    intro w mg fa h KX G hmg
    refine' My.all_mk KX G hmg ?g_FIRST_SIGNED ?a0 ?l0 ?c0 ?k0 ?a1 ?l1 ?c1 ?k1 ?a2 ?l2 ?c2 ?k2 ?a3 ?l3 ?c3 ?k3 ?a4 ?l4 ?c4 ?k4 ?a5 ?l5 ?c5 ?k5 ?a6 ?l6 ?c6 ?k6 ?a7 ?l7 ?c7 ?k7 ?a8 ?l8 ?c8 ?k8 ?a9 ?l9 ?c9 ?k9 ?a10 ?l10 ?c10 ?k10 ?a11 ?l11 ?c11 ?k11 ?a12 ?l12 ?c12 ?k12 ?a13 ?l13 ?c13 ?k13 ?a14 ?l14 ?c14 ?k14 ?z_len ?z_range ?z_abs ?z_int ?z_sum ?z_isinstance ?z_tuple ?z_list ?z_all ?z_bool ?z_max ?z_enumerate ?z_sorted ?z_str
    (case g_FIRST_SIGNED => k_is)
    (case a0 => k_is)
    (case l0 => k_is)
    (case c0 => k_is)
    (case k0 => k_is)
    (case a1 => k_is)
    (case l1 => k_is)
    (case c1 => k_is)
    (case k1 => k_is)
    (case a2 => k_is)
    (case l2 => k_is)
    (case c2 => k_is)
    (case k2 => k_is)
    (case a3 => k_is)
    (case l3 => k_is)
    (case c3 => k_is)
    (case k3 => k_is)
    (case a4 => k_is)
    (case l4 => k_is)
    (case c4 => k_is)
    (case k4 => k_is)
    (case a5 => k_is)
    (case l5 => k_is)
    (case c5 => k_is)
    (case k5 => k_is)
    (case a6 => k_is)
    (case l6 => k_is)
    (case c6 => k_is)
    (case k6 => k_is)
    (case a7 => k_is)
    (case l7 => k_is)
    (case c7 => k_is)
    (case k7 => k_is)
    (case a8 => k_is)
    (case l8 => k_is)
    (case c8 => k_is)
    (case k8 => k_is)
    (case a9 => k_is)
    (case l9 => k_is)
    (case c9 => k_is)
    (case k9 => k_is)
    (case a10 => k_is)
    (case l10 => k_is)
    (case c10 => k_is)
    (case k10 => k_is)
    (case a11 => k_is)
    (case l11 => k_is)
    (case c11 => k_is)
    (case k11 => k_is)
    (case a12 => k_is)
    (case l12 => k_is)
    (case c12 => k_is)
    (case k12 => k_is)
    (case a13 => k_is)
    (case l13 => k_is)
    (case c13 => k_is)
    (case k13 => k_is)
    (case a14 => k_is)
    (case l14 => k_is)
    (case c14 => k_is)
    (case k14 => k_is)
    (case z_len => k_is)
    (case z_range => k_is)
    (case z_abs => k_is)
    (case z_int => k_is)
    (case z_sum => k_is)
    (case z_isinstance => k_is)
    (case z_tuple => k_is)
    (case z_list => k_is)
    (case z_all => k_is)
    (case z_bool => k_is)
    (case z_max => k_is)
    (case z_enumerate => k_is)
    (case z_sorted => k_is)
    (case z_str => k_is)