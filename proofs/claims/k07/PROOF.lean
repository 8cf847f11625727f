import PyProof.Rows.All
import Wide.All
import OpenK.AllK
import Wide.FinOn
import HandS.ForMost
import HandS.Wide
import HandS.IsInst
import HandS.EndBits
import HandS.Evl
import HandS.Star
import HandS.Dict
import HandS.Small
import HandS.ExcIs
import HandS.TryOnly
import HandS.Sort
import HandS.More
import HandS.WordsExc
import HandS.Walk
import HandS.Iter
import KE.KDictSum
import HandS.DictTup
import HandS.Style
import KE.KSortTupG
import HandS.ExcInit
import KE.KExcIs
import PyProof.Rows.MatchSeqLen
import PyProof.RulesMatch
import PyProof.RulesMatchSeq
import PySem.Challenge.RW_allonge_k07_purses
set_option Elab.async false
set_option linter.all false
set_option maxRecDepth 100000
set_option maxHeartbeats 4000000

namespace Gd
open PySem L2

/-! ### data heaps -/
def Sb (G H : Hp) : Prop := ∀ a o, G a = some o → H a = some o
theorem Sb.refl (H : Hp) : Sb H H := fun _ _ h => h
theorem Sb.trans {A B C : Hp} (x : Sb A B) (y : Sb B C) : Sb A C := fun a o h => y a o (x a o h)
theorem Sb.new {G : Hp} {p : Addr} {o : HO} (h : G p = none) : Sb G (upd G p o) := fun a u e => by
  rw [upd_ne (ne_of_none e h)]; exact e
theorem Sb.both {G H : Hp} {p : Addr} {o : HO} (s : Sb G H) : Sb (upd G p o) (upd H p o) := fun a u e => by
  by_cases h : a = p
  · subst h; rw [upd_same] at e ⊢; exact e
  · rw [upd_ne h] at e ⊢; exact s a u e
theorem Sb.add {G H : Hp} {p : Addr} {o : HO} (s : Sb G H) (h : H p = some o) : Sb (upd G p o) H := fun a u e => by
  by_cases q : a = p
  · subst q; rw [upd_same] at e; rw [h]; exact e
  · rw [upd_ne q] at e; exact s a u e
theorem Sb.mut {G H : Hp} {p : Addr} {o : HO} (s : Sb G H) (h : G p = none) : Sb G (upd H p o) := fun a u e => by
  rw [upd_ne (ne_of_none e h)]; exact s a u e
theorem Sb.none {G H : Hp} {p : Addr} (s : Sb G H) (h : H p = none) : G p = none := by
  cases q : G p with
  | none => rfl
  | some o => rw [s p o q] at h; cases h

mutual
inductive Dx (G : Hp) : V → PyData → Prop
  | non : Dx G .non .none
  | bl (b : Bool) : Dx G (.bl b) (.bool b)
  | int (i : Int) : Dx G (.int i) (.int i)
  | str (x : Str) : Dx G (.str x) (.str x)
  | lst {a : Addr} {xs : List V} {ds : List PyData} : G a = some (.lst xs) → Dxs G xs ds → Dx G (.ref a) (.list ds)
  | tup {a : Addr} {xs : List V} {ds : List PyData} : G a = some (.tup xs) → Dxs G xs ds → Dx G (.ref a) (.tuple ds)
inductive Dxs (G : Hp) : List V → List PyData → Prop
  | nil : Dxs G [] []
  | cons {v : V} {vs : List V} {d : PyData} {ds : List PyData} : Dx G v d → Dxs G vs ds → Dxs G (v :: vs) (d :: ds)
end
mutual
theorem Dx.mono {G H : Hp} (s : Sb G H) : ∀ {v : V} {d : PyData}, Dx G v d → Dx H v d
  | _, _, .non => .non
  | _, _, .bl b => .bl b
  | _, _, .int i => .int i
  | _, _, .str x => .str x
  | _, _, .lst h a => .lst (s _ _ h) (Dxs.mono s a)
  | _, _, .tup h a => .tup (s _ _ h) (Dxs.mono s a)
theorem Dxs.mono {G H : Hp} (s : Sb G H) : ∀ {vs : List V} {ds : List PyData}, Dxs G vs ds → Dxs H vs ds
  | _, _, .nil => .nil
  | _, _, .cons h t => .cons (Dx.mono s h) (Dxs.mono s t)
end
mutual
theorem Dx.dp {K : PySem.W.Frag} {G : Hp} : ∀ {v : V} {d : PyData}, Dx G v d → Dp K G v d
  | _, _, .non => .non
  | _, _, .bl b => .bl b
  | _, _, .int i => .int i
  | _, _, .str x => .str x
  | _, _, .lst h a => .lst (Or.inl (Or.inl h)) (Dxs.dp a)
  | _, _, .tup h a => .tup (Or.inl (Or.inl h)) (Dxs.dp a)
theorem Dxs.dp {K : PySem.W.Frag} {G : Hp} : ∀ {vs : List V} {ds : List PyData}, Dxs G vs ds → DpAll K G vs ds
  | _, _, .nil => .nil
  | _, _, .cons h t => .cons (Dx.dp h) (Dxs.dp t)
end
theorem Dx.int_eq {G : Hp} {v : V} {i : Int} (h : Dx G v (.int i)) : v = .int i := by cases h; rfl
theorem Dx.bl_eq {G : Hp} {v : V} {b : Bool} (h : Dx G v (.bool b)) : v = .bl b := by cases h; rfl
theorem Dx.str_eq {G : Hp} {v : V} {z : Str} (h : Dx G v (.str z)) : v = .str z := by cases h; rfl
theorem Dx.non_eq {G : Hp} {v : V} (h : Dx G v .none) : v = .non := by cases h; rfl
theorem Dx.lst_eq {G : Hp} {v : V} {ds : List PyData} (h : Dx G v (.list ds)) : ∃ a xs, v = .ref a ∧ G a = some (.lst xs) ∧ Dxs G xs ds := by
  cases h with | lst h a => exact ⟨_, _, rfl, h, a⟩
theorem Dx.tup_eq {G : Hp} {v : V} {ds : List PyData} (h : Dx G v (.tuple ds)) : ∃ a xs, v = .ref a ∧ G a = some (.tup xs) ∧ Dxs G xs ds := by
  cases h with | tup h a => exact ⟨_, _, rfl, h, a⟩
theorem Dxs.len {G : Hp} : ∀ {vs : List V} {ds : List PyData}, Dxs G vs ds → vs.length = ds.length
  | _, _, .nil => rfl
  | _, _, .cons _ t => congrArg (· + 1) (Dxs.len t)
theorem Dxs.get {G : Hp} : ∀ {vs : List V} {ds : List PyData} {i : Nat} {d : PyData}, Dxs G vs ds → ds[i]? = some d → ∃ v, vs[i]? = some v ∧ Dx G v d
  | _, _, 0, _, .cons h _, e => by cases e; exact ⟨_, rfl, h⟩
  | _, _, i + 1, _, .cons _ t, e => Dxs.get (i := i) t e
theorem Dxs.getV {G : Hp} : ∀ {vs : List V} {ds : List PyData} {i : Nat} {v : V}, Dxs G vs ds → vs[i]? = some v → ∃ d, ds[i]? = some d ∧ Dx G v d
  | _, _, 0, _, .cons h _, e => by cases e; exact ⟨_, rfl, h⟩
  | _, _, i + 1, _, .cons _ t, e => Dxs.getV (i := i) t e
theorem Dxs.app {G : Hp} : ∀ {vs ws : List V} {ds es : List PyData}, Dxs G vs ds → Dxs G ws es → Dxs G (vs ++ ws) (ds ++ es)
  | _, _, _, _, .nil, t => t
  | _, _, _, _, .cons h t, u => .cons h (Dxs.app t u)
theorem Dxs.one {G : Hp} {v : V} {d : PyData} (h : Dx G v d) : Dxs G [v] [d] := .cons h .nil
theorem Dxs.take {G : Hp} : ∀ {vs : List V} {ds : List PyData} (n : Nat), Dxs G vs ds → Dxs G (vs.take n) (ds.take n)
  | _, _, 0, _ => .nil
  | _, _, _ + 1, .nil => .nil
  | _, _, n + 1, .cons h t => .cons h (Dxs.take n t)
theorem Dxs.drop {G : Hp} : ∀ {vs : List V} {ds : List PyData} (n : Nat), Dxs G vs ds → Dxs G (vs.drop n) (ds.drop n)
  | _, _, 0, h => h
  | _, _, _ + 1, .nil => .nil
  | _, _, n + 1, .cons _ t => Dxs.drop n t
theorem Dxs.ints {G : Hp} : ∀ (ns : List Int), Dxs G (ns.map V.int) (ns.map PyData.int)
  | [] => .nil
  | n :: r => .cons (.int n) (Dxs.ints r)
theorem Dxs.ints_eq {G : Hp} : ∀ {vs : List V} {ns : List Int}, Dxs G vs (ns.map PyData.int) → vs = ns.map V.int
  | _, [], .nil => rfl
  | _, n :: r, .cons h t => by rw [Dx.int_eq h, Dxs.ints_eq t]; rfl
theorem Dxs.bls_eq {G : Hp} : ∀ {vs : List V} {bs : List Bool}, Dxs G vs (bs.map PyData.bool) → vs = bs.map V.bl
  | _, [], .nil => rfl
  | _, n :: r, .cons h t => by rw [Dx.bl_eq h, Dxs.bls_eq t]; rfl
theorem Dxs.strs_eq {G : Hp} : ∀ {vs : List V} {zs : List Str}, Dxs G vs (zs.map PyData.str) → vs = zs.map V.str
  | _, [], .nil => rfl
  | _, n :: r, .cons h t => by rw [Dx.str_eq h, Dxs.strs_eq t]; rfl

/-! ### growing: G within H, M may change -/
structure Gr (M : List Addr) (G H G' H' : Hp) : Prop where
  g : Sb G G'
  s : Sb G' H'
  h : ∀ a o, a ∉ M → H a = some o → H' a = some o
  t : ∀ a o, H a = some o → ∃ o', H' a = some o'
  n : ∀ a o, H a = some o → G a = none → G' a = none
theorem Gr.refl {M : List Addr} {G H : Hp} (s : Sb G H) : Gr M G H G H := ⟨Sb.refl G, s, fun _ _ _ h => h, fun _ o h => ⟨o, h⟩, fun _ _ _ h => h⟩
theorem Gr.trans {M : List Addr} {G H G1 H1 G2 H2 : Hp} (x : Gr M G H G1 H1) (y : Gr M G1 H1 G2 H2) : Gr M G H G2 H2 :=
  ⟨x.g.trans y.g, y.s, fun a o m e => y.h a o m (x.h a o m e), fun a o e => by obtain ⟨o', e'⟩ := x.t a o e; exact y.t a o' e',
   fun a o e e0 => by obtain ⟨o', e'⟩ := x.t a o e; exact y.n a o' e' (x.n a o e e0)⟩
theorem Gr.mono {M N : List Addr} {G H G' H' : Hp} (x : Gr M G H G' H') (h : ∀ a ∈ M, a ∈ N) : Gr N G H G' H' :=
  ⟨x.g, x.s, fun a o m e => x.h a o (fun z => m (h a z)) e, x.t, x.n⟩
theorem Gr.any {N : List Addr} {G H G' H' : Hp} (x : Gr [] G H G' H') : Gr N G H G' H' := x.mono fun _ z => nomatch z
theorem Gr.free {M : List Addr} {G H G' H' : Hp} (x : Gr M G H G' H') {p : Addr} (h : H' p = none) : H p = none := by
  cases q : H p with
  | none => rfl
  | some o => obtain ⟨o', e⟩ := x.t p o q; rw [e] at h; cases h
/-- a new object that is data at once -/
theorem Gr.data {M : List Addr} {G H G' H' : Hp} (x : Gr M G H G' H') {p : Addr} {o : HO} (h : H' p = none) : Gr M G H (upd G' p o) (upd H' p o) :=
  ⟨x.g.trans (Sb.new (x.s.none h)), x.s.both, fun a u m e => by rw [upd_ne (ne_of_none (x.h a u m e) h)]; exact x.h a u m e,
   fun a u e => by obtain ⟨o', e'⟩ := x.t a u e; exact ⟨o', by rw [upd_ne (ne_of_none e' h)]; exact e'⟩,
   fun a u e e0 => by obtain ⟨o', e'⟩ := x.t a u e; rw [upd_ne (ne_of_none e' h)]; exact x.n a u e e0⟩
/-- a new object that is not data yet -/
theorem Gr.own {M : List Addr} {G H G' H' : Hp} (x : Gr M G H G' H') {p : Addr} {o : HO} (h : H' p = none) : Gr M G H G' (upd H' p o) :=
  ⟨x.g, x.s.mut (x.s.none h), fun a u m e => by rw [upd_ne (ne_of_none (x.h a u m e) h)]; exact x.h a u m e,
   fun a u e => by obtain ⟨o', e'⟩ := x.t a u e; exact ⟨o', by rw [upd_ne (ne_of_none e' h)]; exact e'⟩, x.n⟩
/-- an own object becomes data -/
theorem Gr.freeze {M : List Addr} {G H G' H' : Hp} (x : Gr M G H G' H') {p : Addr} {o : HO} (h : H' p = some o) (hn : G' p = none) (h0 : H p = none) : Gr M G H (upd G' p o) H' :=
  ⟨x.g.trans (Sb.new hn), x.s.add h, x.h, x.t, fun a u e e0 => by
    have ne : a ≠ p := fun q => by subst q; rw [h0] at e; cases e
    rw [upd_ne ne]; exact x.n a u e e0⟩
/-- an own object is written -/
theorem Gr.write {M : List Addr} {G H G' H' : Hp} (x : Gr M G H G' H') {p : Addr} {o : HO} (hm : p ∈ M ∨ H p = none) (hn : G' p = none) : Gr M G H G' (upd H' p o) :=
  ⟨x.g, x.s.mut hn, fun a u m e => by
    have ne : a ≠ p := fun q => by
      subst q
      rcases hm with hm | hm
      · exact m hm
      · rw [hm] at e; cases e
    rw [upd_ne ne]; exact x.h a u m e,
   fun a u e => by
    by_cases ne : a = p
    · subst ne; exact ⟨o, upd_same⟩
    · obtain ⟨o', e'⟩ := x.t a u e; exact ⟨o', by rw [upd_ne ne]; exact e'⟩, x.n⟩
/-- data for a while: what was frozen is own again, what was made of it is forgotten -/
theorem Gr.thaw {M : List Addr} {G H G2 H2 : Hp} {p : Addr} {o : HO} (x : Gr M (upd G p o) H G2 H2) (hn : G p = none) : Gr M G H G H2 :=
  ⟨Sb.refl G, ((Sb.new hn).trans x.g).trans x.s, x.h, x.t, fun _ _ _ e => e⟩
/-- what was made within is forgotten from M -/
theorem Gr.drop {M : List Addr} {p : Addr} {G H G' H' : Hp} (x : Gr (p :: M) G H G' H') (h : H p = none) : Gr M G H G' H' :=
  ⟨x.g, x.s, fun a o m e => x.h a o (fun z => by
    rcases List.mem_cons.mp z with z | z
    · subst z; rw [h] at e; cases e
    · exact m z) e, x.t, x.n⟩
theorem Gr.ne {M : List Addr} {G H G' H' : Hp} (x : Gr M G H G' H') {p : Addr} {o : HO} (h : H p = some o) (hn : G p = none) : G' p = none := x.n p o h hn

/-! ### what evaluates to what -/
def EvP (te : TE) (σ : L2.St) (G H : Hp) (P : PyData → Prop) : Prop := ∀ G1 H1, Gr [] G H G1 H1 → ∀ Q : VK, (∀ v d G2 H2, Gr [] G1 H1 G2 H2 → P d → Dx G2 v d → Q v H2) → te σ H1 Q
def EvD (te : TE) (σ : L2.St) (G H : Hp) (d : PyData) : Prop := ∀ G1 H1, Gr [] G H G1 H1 → ∀ Q : VK, (∀ v G2 H2, Gr [] G1 H1 G2 H2 → Dx G2 v d → Q v H2) → te σ H1 Q
/-- a new list of its own -/
def EvM (te : TE) (σ : L2.St) (G H : Hp) (ds : List PyData) : Prop := ∀ G1 H1, Gr [] G H G1 H1 → ∀ Q : VK, (∀ p xs G2 H2, Gr [] G1 H1 G2 H2 → H1 p = none → G2 p = none → H2 p = some (.lst xs) → Dxs G2 xs ds → Q (.ref p) H2) → te σ H1 Q
def EvMP (te : TE) (σ : L2.St) (G H : Hp) (P : List PyData → Prop) : Prop := ∀ G1 H1, Gr [] G H G1 H1 → ∀ Q : VK, (∀ p xs ds G2 H2, Gr [] G1 H1 G2 H2 → H1 p = none → G2 p = none → H2 p = some (.lst xs) → P ds → Dxs G2 xs ds → Q (.ref p) H2) → te σ H1 Q
def EvT (tt : TT) (σ : L2.St) (G H : Hp) (b : Bool) : Prop := ∀ G1 H1, Gr [] G H G1 H1 → ∀ Q : Bool → Hp → Prop, (∀ G2 H2, Gr [] G1 H1 G2 H2 → Q b H2) → tt σ H1 Q
def EvA (ta : TA) (σ : L2.St) (G H : Hp) (ds : List PyData) : Prop := ∀ G1 H1, Gr [] G H G1 H1 → ∀ Q : List V → Hp → Prop, (∀ vs G2 H2, Gr [] G1 H1 G2 H2 → Dxs G2 vs ds → Q vs H2) → ta σ H1 Q
def EvO (to : TO) (σ : L2.St) (G H : Hp) (o : Option Int) : Prop := ∀ G1 H1, Gr [] G H G1 H1 → ∀ Q : Option Int → Hp → Prop, (∀ G2 H2, Gr [] G1 H1 G2 H2 → Q o H2) → to σ H1 Q
/-- the same of operations on values -/
def RD (r : R2) (d1 d2 d : PyData) : Prop := ∀ G1 H1 x y, Sb G1 H1 → Dx G1 x d1 → Dx G1 y d2 → ∀ Q : VK, (∀ v G2 H2, Gr [] G1 H1 G2 H2 → Dx G2 v d → Q v H2) → r x y H1 Q
def RM (r : R2) (d1 d2 : PyData) (ds : List PyData) : Prop := ∀ G1 H1 x y, Sb G1 H1 → Dx G1 x d1 → Dx G1 y d2 → ∀ Q : VK, (∀ p xs G2 H2, Gr [] G1 H1 G2 H2 → H1 p = none → G2 p = none → H2 p = some (.lst xs) → Dxs G2 xs ds → Q (.ref p) H2) → r x y H1 Q
def CD (r : List V → Hp → VK → Prop) (ds : List PyData) (d : PyData) : Prop := ∀ G1 H1 vs, Sb G1 H1 → Dxs G1 vs ds → ∀ Q : VK, (∀ v G2 H2, Gr [] G1 H1 G2 H2 → Dx G2 v d → Q v H2) → r vs H1 Q
def CM (r : List V → Hp → VK → Prop) (ds : List PyData) (es : List PyData) : Prop := ∀ G1 H1 vs, Sb G1 H1 → Dxs G1 vs ds → ∀ Q : VK, (∀ p xs G2 H2, Gr [] G1 H1 G2 H2 → H1 p = none → G2 p = none → H2 p = some (.lst xs) → Dxs G2 xs es → Q (.ref p) H2) → r vs H1 Q
section
variable {K : PySem.W.Frag} {σ : L2.St} {G G' H H' : Hp} {ta tb tc te : TE} {tt tu : TT} {d d1 d2 d3 : PyData} {ds es : List PyData} {r r' : R2} {b c : Bool}
theorem EvD.p {P : PyData → Prop} (h : EvD te σ G H d) (p : P d) : EvP te σ G H P := fun G1 H1 a Q q => h G1 H1 a Q fun v G2 H2 g x => q v d G2 H2 g p x
theorem EvD.mono (h : EvD te σ G H d) (s : Gr [] G H G' H') : EvD te σ G' H' d := fun G1 H1 a Q q => h G1 H1 (s.trans a) Q q
theorem EvM.mono (h : EvM te σ G H ds) (s : Gr [] G H G' H') : EvM te σ G' H' ds := fun G1 H1 a Q q => h G1 H1 (s.trans a) Q q
theorem EvT.mono (h : EvT tt σ G H b) (s : Gr [] G H G' H') : EvT tt σ G' H' b := fun G1 H1 a Q q => h G1 H1 (s.trans a) Q q
theorem EvM.dat (h : EvM te σ G H ds) : EvD te σ G H (.list ds) := fun G1 H1 a Q q => h G1 H1 a Q fun p xs G2 H2 g h0 hn h2 x =>
  q (.ref p) _ H2 (g.freeze h2 hn h0) (.lst upd_same (x.mono (Sb.new hn)))
theorem ev_is (h : EvD te σ G H d) (e : d = d1) : EvD te σ G H d1 := e ▸ h
theorem evt_is (h : EvT tt σ G H b) (e : b = c) : EvT tt σ G H c := e ▸ h
theorem evm_is (h : EvM te σ G H ds) (e : ds = es) : EvM te σ G H es := e ▸ h
theorem ev_var {i : Nat} {v : V} (h : σ[i]? = some (some v)) (x : Dx G v d) : EvD (tVar i) σ G H d := fun G1 _ a _ q => ⟨v, h, q v G1 _ (.refl a.s) (x.mono a.g)⟩
theorem ev_int {i : Int} : EvD (tC (.int i)) σ G H (.int i) := fun G1 _ a _ q => q _ G1 _ (.refl a.s) (.int i)
theorem ev_bl {x : Bool} : EvD (tC (.bl x)) σ G H (.bool x) := fun G1 _ a _ q => q _ G1 _ (.refl a.s) (.bl x)
theorem ev_str {x : Str} : EvD (tC (.str x)) σ G H (.str x) := fun G1 _ a _ q => q _ G1 _ (.refl a.s) (.str x)
theorem ev_non : EvD (tC .non) σ G H .none := fun G1 _ a _ q => q _ G1 _ (.refl a.s) .non
theorem ev_op (ha : EvD ta σ G H d1) (hb : EvD tb σ G H d2) (hr : RD r d1 d2 d) : EvD (tOp r ta tb) σ G H d := fun G1 H1 a Q q =>
  ha G1 H1 a _ fun v G2 H2 g x => hb G2 H2 (a.trans g) _ fun u G3 H3 g3 y => hr G3 H3 v u g3.s (x.mono g3.g) y Q fun w G4 H4 g4 z => q w G4 H4 (g.trans (g3.trans g4)) z
theorem ev_opM (ha : EvD ta σ G H d1) (hb : EvD tb σ G H d2) (hr : RM r d1 d2 ds) : EvM (tOp r ta tb) σ G H ds := fun G1 H1 a Q q =>
  ha G1 H1 a _ fun v G2 H2 g x => hb G2 H2 (a.trans g) _ fun u G3 H3 g3 y => hr G3 H3 v u g3.s (x.mono g3.g) y Q fun p xs G4 H4 g4 h0 hn h4 z =>
    q p xs G4 H4 (g.trans (g3.trans g4)) ((g.trans g3).free h0) hn h4 z
theorem ev_chain {b1 b2 : Bool} (ha : EvD ta σ G H d1) (hb : EvD tb σ G H d2) (hr : RD r d1 d2 (.bool b1)) (hc : b1 = true → EvD tc σ G H d3) (hr' : b1 = true → RD r' d2 d3 (.bool b2)) : EvD (tChain r r' ta tb tc) σ G H (.bool (b1 && b2)) := fun G1 H1 a Q q =>
  ha G1 H1 a _ fun v G2 H2 g x => hb G2 H2 (a.trans g) _ fun u G3 H3 g3 y => hr G3 H3 v u g3.s (x.mono g3.g) y _ fun w G4 H4 g4 z => by
    refine ⟨b1, z.bl_eq, ?_⟩
    cases b1 with
    | true =>
      refine iteT (hc rfl G4 H4 (a.trans (g.trans (g3.trans g4))) _ fun t G5 H5 g5 zz => ?_)
      exact hr' rfl G5 H5 u t g5.s (y.mono (g4.g.trans g5.g)) zz Q fun w G6 H6 g6 z6 => q w G6 H6 (g.trans (g3.trans (g4.trans (g5.trans g6)))) z6
    | false => exact iteF (q _ G4 H4 (g.trans (g3.trans g4)) (.bl false))
theorem ev_un {f : V → Hp → VK → Prop} (ha : EvD ta σ G H d1) (hr : ∀ G1 H1 x, Sb G1 H1 → Dx G1 x d1 → ∀ Q : VK, (∀ v G2 H2, Gr [] G1 H1 G2 H2 → Dx G2 v d → Q v H2) → f x H1 Q) : EvD (tUn f ta) σ G H d := fun G1 H1 a Q q =>
  ha G1 H1 a _ fun v G2 H2 g x => hr G2 H2 v g.s x Q fun w G4 H4 g4 z => q w G4 H4 (g.trans g4) z
theorem ev_neg {i : Int} (ha : EvD ta σ G H (.int i)) : EvD (tUn (rU fun i => .int (-i)) ta) σ G H (.int (-i)) := ev_un ha fun G1 _ _ s x _ q => ⟨i, x.int_eq, q _ G1 _ (.refl s) (.int _)⟩
theorem ev_if (h : EvT tt σ G H b) (h1 : b = true → EvD ta σ G H d) (h2 : b = false → EvD tb σ G H d) : EvD (tIf tt ta tb) σ G H d := fun G1 H1 a Q q => h G1 H1 a _ fun G2 H2 g => by
  cases b with
  | true => exact iteT (h1 rfl G2 H2 (a.trans g) Q fun v G3 H3 g3 x => q v G3 H3 (g.trans g3) x)
  | false => exact iteF (h2 rfl G2 H2 (a.trans g) Q fun v G3 H3 g3 x => q v G3 H3 (g.trans g3) x)
/-! tests -/
theorem et_test (h : EvD te σ G H (.bool b)) : EvT (tTest te) σ G H b := fun G1 H1 a Q q => h G1 H1 a _ fun v G2 H2 g x => ⟨b, x.bl_eq, q G2 H2 g⟩
theorem et_B (h : EvD te σ G H (.bool b)) : EvT (tB te) σ G H b := fun G1 H1 a Q q => h G1 H1 a _ fun v G2 H2 g x => ⟨b, x.bl_eq, q G2 H2 g⟩
theorem et_and (h : EvT tt σ G H b) (h1 : b = true → EvT tu σ G H c) : EvT (tAnd tt tu) σ G H (b && c) := fun G1 H1 a Q q => h G1 H1 a _ fun G2 H2 g => by
  cases b with
  | true => exact iteT (h1 rfl G2 H2 (a.trans g) Q fun G3 H3 g3 => q G3 H3 (g.trans g3))
  | false => exact iteF (q G2 H2 g)
theorem et_or (h : EvT tt σ G H b) (h1 : b = false → EvT tu σ G H c) : EvT (tOr tt tu) σ G H (b || c) := fun G1 H1 a Q q => h G1 H1 a _ fun G2 H2 g => by
  cases b with
  | false => exact iteF (h1 rfl G2 H2 (a.trans g) Q fun G3 H3 g3 => q G3 H3 (g.trans g3))
  | true => exact iteT (q G2 H2 g)
theorem et_not (h : EvT tt σ G H b) : EvT (tNot tt) σ G H (!b) := fun G1 H1 a _ q => h G1 H1 a _ fun G2 H2 g => q G2 H2 g
theorem et_yes : EvT tYes σ G H true := fun G1 H1 a _ q => q G1 H1 (.refl a.s)
theorem ev_andV (h : EvD ta σ G H (.bool b)) (h1 : b = true → EvD tb σ G H (.bool c)) : EvD (tAndV ta tb) σ G H (.bool (b && c)) := fun G1 H1 a Q q => h G1 H1 a _ fun v G2 H2 g x => ⟨b, x.bl_eq, by
  cases b with
  | true => exact iteT (h1 rfl G2 H2 (a.trans g) Q fun v G3 H3 g3 x => q v G3 H3 (g.trans g3) x)
  | false => exact iteF (q _ G2 H2 g (.bl false))⟩
theorem ev_orV (h : EvD ta σ G H (.bool b)) (h1 : b = false → EvD tb σ G H (.bool c)) : EvD (tOrV ta tb) σ G H (.bool (b || c)) := fun G1 H1 a Q q => h G1 H1 a _ fun v G2 H2 g x => ⟨b, x.bl_eq, by
  cases b with
  | false => exact iteF (h1 rfl G2 H2 (a.trans g) Q fun v G3 H3 g3 x => q v G3 H3 (g.trans g3) x)
  | true => exact iteT (q _ G2 H2 g (.bl true))⟩
theorem ev_notV (h : EvD ta σ G H (.bool b)) : EvD (tNotV ta) σ G H (.bool (!b)) := fun G1 H1 a _ q => h G1 H1 a _ fun v G2 H2 g x => ⟨b, x.bl_eq, q _ G2 H2 g (.bl _)⟩
def isNone : PyData → Bool
  | .none => true
  | _ => false
theorem ev_isN (h : EvD ta σ G H d) : EvD (tIsN ta) σ G H (.bool (isNone d)) := fun G1 H1 a _ q => h G1 H1 a _ fun v G2 H2 g x => by
  have e : decide (v = V.non) = isNone d := by cases x <;> rfl
  show _
  rw [e]; exact q _ G2 H2 g (.bl _)
theorem ev_notN (h : EvD ta σ G H d) : EvD (tNotN ta) σ G H (.bool (!isNone d)) := fun G1 H1 a _ q => h G1 H1 a _ fun v G2 H2 g x => by
  have e : decide (v = V.non) = isNone d := by cases x <;> rfl
  show _
  rw [e]; exact q _ G2 H2 g (.bl _)
/-! arguments -/
theorem ea_nil : EvA tNil σ G H [] := fun G1 H1 a _ q => q [] G1 H1 (.refl a.s) .nil
theorem ea_cons {tr : TA} (h : EvD te σ G H d) (hr : EvA tr σ G H ds) : EvA (tCons te tr) σ G H (d :: ds) := fun G1 H1 a _ q =>
  h G1 H1 a _ fun v G2 H2 g x => hr G2 H2 (a.trans g) _ fun vs G3 H3 g3 xs => q (v :: vs) G3 H3 (g.trans g3) (.cons (x.mono g3.g) xs)
theorem ea_is {t : TA} (h : EvA t σ G H ds) (e : ds = es) : EvA t σ G H es := e ▸ h
theorem ev_tup {t : TA} (h : EvA t σ G H ds) (hl : ds.length ≤ 100000) : EvD (tTup t) σ G H (.tuple ds) := fun G1 H1 a _ q =>
  h G1 H1 a _ fun vs G2 H2 g xs => ⟨Evl.sz_of (by rw [xs.len]; exact hl), fun p hp => q (.ref p) _ _ (g.data hp) (.tup upd_same (xs.mono (Sb.new (g.s.none hp))))⟩
theorem ev_lst {t : TA} (h : EvA t σ G H ds) (hl : ds.length ≤ 100000) : EvM (tLst t) σ G H ds := fun G1 H1 a _ q =>
  h G1 H1 a _ fun vs G2 H2 g xs => ⟨Evl.sz_of (by rw [xs.len]; exact hl), fun p hp => q p vs G2 _ (g.own hp) (g.free hp) (g.s.none hp) upd_same xs⟩
theorem ev_cb {f : List V → Hp → VK → Prop} {t : TA} (h : EvA t σ G H ds) (hr : CD f ds d) : EvD (tCB f t) σ G H d := fun G1 H1 a Q q =>
  h G1 H1 a _ fun vs G2 H2 g xs => hr G2 H2 vs g.s xs Q fun v G3 H3 g3 x => q v G3 H3 (g.trans g3) x
theorem ev_cbM {f : List V → Hp → VK → Prop} {t : TA} (h : EvA t σ G H ds) (hr : CM f ds es) : EvM (tCB f t) σ G H es := fun G1 H1 a Q q =>
  h G1 H1 a _ fun vs G2 H2 g xs => hr G2 H2 vs g.s xs Q fun p ys G3 H3 g3 h0 hn h3 x => q p ys G3 H3 (g.trans g3) (g.free h0) hn h3 x
theorem eo_none : EvO tNoPart σ G H none := fun G1 H1 a _ q => q G1 H1 (.refl a.s)
theorem eo_some {i : Int} (h : EvD te σ G H (.int i)) : EvO (tPart te) σ G H (some i) := fun G1 H1 a _ q => h G1 H1 a _ fun v G2 H2 g x => ⟨i, x.int_eq, q G2 H2 g⟩
/-- an own list read: len(xs), xs[i] -/
theorem ev_lenO {l : Addr} {xs : List V} {i : Nat} (h : σ[i]? = some (some (.ref l))) (hl : H l = some (.lst xs)) : EvD (tCB (fun xs H Q => ∃ p ys, xs = [.ref p] ∧ (SqL K H p ys ∨ SqT K H p ys) ∧ Q (.int ys.length) H) (tCons (tVar i) tNil)) σ G H (.int xs.length) := fun G1 H1 a Q q =>
  ⟨.ref l, h, l, xs, rfl, Or.inl (Or.inl (Or.inl (a.h l _ (by simp) hl))), q _ G1 H1 (.refl a.s) (.int _)⟩
theorem ev_ixO {l : Addr} {xs : List V} {i : Nat} {k : Int} (h : σ[i]? = some (some (.ref l))) (hl : H l = some (.lst xs)) (hx : Dxs G xs ds) (hk : EvD ta σ G H (.int k)) (e : atI ds k = some d) : EvD (tOp (rIxL K) (tVar i) ta) σ G H d := fun G1 H1 a Q q =>
  ⟨.ref l, h, hk G1 H1 a _ fun v G2 H2 g x => by
    have hl2 := (a.trans g).h l _ (by simp) hl
    have dxs := hx.mono (a.trans g).g
    obtain ⟨j, hj⟩ : ∃ j, ixN ds.length k = some j := by
      unfold atI at e
      cases q : ixN ds.length k with
      | none => rw [q] at e; cases e
      | some j => exact ⟨j, rfl⟩
    unfold atI at e
    rw [hj] at e
    obtain ⟨u, hu, du⟩ := dxs.get (i := j) e
    refine ⟨l, xs, k, u, rfl, x.int_eq, Or.inl (Or.inl hl2), ?_, q u G2 H2 g du⟩
    unfold atI
    rw [dxs.len, hj]
    exact hu⟩
theorem ev_sumO {l : Addr} {xs : List V} {ns : List Int} {i : Nat} (h : σ[i]? = some (some (.ref l))) (hl : H l = some (.lst xs)) (hx : Dxs G xs (ns.map .int)) : EvD (tCB (rSum K) (tCons (tVar i) tNil)) σ G H (.int ns.sum) := fun G1 H1 a Q q =>
  ⟨.ref l, h, l, ns, rfl, by rw [← hx.ints_eq]; exact Or.inl (Or.inl (a.h l _ (by simp) hl)), q _ G1 H1 (.refl a.s) (.int _)⟩
end

/-! ### operations -/
section
variable {K : PySem.W.Frag} {d e : PyData} {ds es : List PyData} {i j : Int}
theorem rd_I0 {g : Int → Int → V} {d : PyData} (h : ∀ G, Dx G (g i j) d) : RD (rI0 g) (.int i) (.int j) d := fun G1 _ _ _ s x y _ q => ⟨i, j, x.int_eq, y.int_eq, q _ G1 _ (.refl s) (h G1)⟩
theorem rd_I {C : Int → Int → Prop} {g : Int → Int → V} {d : PyData} (hc : C i j) (h : ∀ G, Dx G (g i j) d) : RD (rI C g) (.int i) (.int j) d := fun G1 _ _ _ s x y _ q => ⟨i, j, x.int_eq, y.int_eq, hc, q _ G1 _ (.refl s) (h G1)⟩
theorem rd_add : RD (rI0 fun i j => .int (i + j)) (.int i) (.int j) (.int (i + j)) := rd_I0 fun _ => .int _
theorem rd_sub : RD (rI0 fun i j => .int (i - j)) (.int i) (.int j) (.int (i - j)) := rd_I0 fun _ => .int _
theorem rd_mul (h : CMul i j) : RD (rI CMul fun i j => .int (i * j)) (.int i) (.int j) (.int (i * j)) := rd_I h fun _ => .int _
theorem rd_mod (h : 0 < j) : RD (rI (fun _ j => 0 < j) fun i j => .int (i % j)) (.int i) (.int j) (.int (i % j)) := rd_I (C := fun _ j => 0 < j) h fun _ => .int _
theorem rd_fdiv (h : CDiv i j) : RD (rI CDiv fun i j => .int (i / j)) (.int i) (.int j) (.int (i / j)) := rd_I h fun _ => .int _
theorem rd_pow (h : CPow i j) : RD (rI CPow fun i j => .int (i ^ j.toNat)) (.int i) (.int j) (.int (i ^ j.toNat)) := rd_I h fun _ => .int _
theorem rd_lt : RD (rI0 fun i j => .bl (decide (i < j))) (.int i) (.int j) (.bool (decide (i < j))) := rd_I0 fun _ => .bl _
theorem rd_le : RD (rI0 fun i j => .bl (decide (i ≤ j))) (.int i) (.int j) (.bool (decide (i ≤ j))) := rd_I0 fun _ => .bl _
theorem rd_gt : RD (rI0 fun i j => .bl (decide (j < i))) (.int i) (.int j) (.bool (decide (j < i))) := rd_I0 fun _ => .bl _
theorem rd_ge : RD (rI0 fun i j => .bl (decide (j ≤ i))) (.int i) (.int j) (.bool (decide (j ≤ i))) := rd_I0 fun _ => .bl _
theorem rd_eqI : RD rEq (.int i) (.int j) (.bool (decide (i = j))) := fun G1 _ x y s hx hy _ q => by
  rw [hx.int_eq, hy.int_eq]
  refine ⟨rfl, ?_⟩
  have e : decide (V.int i = V.int j) = decide (i = j) := decide_eq_decide.mpr ⟨fun h => V.int.inj h, fun h => congrArg _ h⟩
  rw [e]; exact q _ G1 _ (.refl s) (.bl _)
theorem rd_neI : RD rNe (.int i) (.int j) (.bool (!decide (i = j))) := fun G1 _ x y s hx hy _ q => by
  rw [hx.int_eq, hy.int_eq]
  refine ⟨rfl, ?_⟩
  have e : decide (V.int i = V.int j) = decide (i = j) := decide_eq_decide.mpr ⟨fun h => V.int.inj h, fun h => congrArg _ h⟩
  rw [e]; exact q _ G1 _ (.refl s) (.bl _)
theorem rd_eqS {y z : Str} : RD rEq (.str y) (.str z) (.bool (decide (y = z))) := fun G1 _ u v s hx hy _ q => by
  rw [hx.str_eq, hy.str_eq]
  refine ⟨rfl, ?_⟩
  have e : decide (V.str y = V.str z) = decide (y = z) := decide_eq_decide.mpr ⟨fun h => V.str.inj h, fun h => congrArg _ h⟩
  rw [e]; exact q _ G1 _ (.refl s) (.bl _)
theorem rd_neS {y z : Str} : RD rNe (.str y) (.str z) (.bool (!decide (y = z))) := fun G1 _ u v s hx hy _ q => by
  rw [hx.str_eq, hy.str_eq]
  refine ⟨rfl, ?_⟩
  have e : decide (V.str y = V.str z) = decide (y = z) := decide_eq_decide.mpr ⟨fun h => V.str.inj h, fun h => congrArg _ h⟩
  rw [e]; exact q _ G1 _ (.refl s) (.bl _)
theorem rd_eqB {y z : Bool} : RD rEq (.bool y) (.bool z) (.bool (decide (y = z))) := fun G1 _ u v s hx hy _ q => by
  rw [hx.bl_eq, hy.bl_eq]
  refine ⟨rfl, ?_⟩
  have e : decide (V.bl y = V.bl z) = decide (y = z) := decide_eq_decide.mpr ⟨fun h => V.bl.inj h, fun h => congrArg _ h⟩
  rw [e]; exact q _ G1 _ (.refl s) (.bl _)
theorem rd_neB {y z : Bool} : RD rNe (.bool y) (.bool z) (.bool (!decide (y = z))) := fun G1 _ u v s hx hy _ q => by
  rw [hx.bl_eq, hy.bl_eq]
  refine ⟨rfl, ?_⟩
  have e : decide (V.bl y = V.bl z) = decide (y = z) := decide_eq_decide.mpr ⟨fun h => V.bl.inj h, fun h => congrArg _ h⟩
  rw [e]; exact q _ G1 _ (.refl s) (.bl _)
theorem rd_eqD (h1 : SeqAt.shaped d = true) (h2 : SeqAt.shaped e = true) : RD (rEqD K) d e (.bool (PyData.eqv d e)) := fun G1 _ _ _ s x y _ q =>
  ⟨d, e, (x.mono s).dp, (y.mono s).dp, h1, h2, q _ G1 _ (.refl s) (.bl _)⟩
theorem rd_neD (h1 : SeqAt.shaped d = true) (h2 : SeqAt.shaped e = true) : RD (rNeD K) d e (.bool (!PyData.eqv d e)) := fun G1 _ _ _ s x y _ q =>
  ⟨d, e, (x.mono s).dp, (y.mono s).dp, h1, h2, q _ G1 _ (.refl s) (.bl _)⟩
theorem atI_dx {G : Hp} {xs : List V} (h : Dxs G xs ds) (e : atI ds i = some d) : ∃ v, atI xs i = some v ∧ Dx G v d := by
  unfold atI at e ⊢
  rw [h.len]
  cases q : ixN ds.length i with
  | none => rw [q] at e; cases e
  | some j => rw [q] at e; exact h.get e
theorem rd_ixL (h : atI ds i = some d) : RD (rIxL K) (.list ds) (.int i) d := fun G1 H1 x y s hx hy Q q => by
  obtain ⟨a, xs, rfl, hl, ha⟩ := hx.lst_eq
  obtain ⟨v, hv, dv⟩ := atI_dx ha h
  exact ⟨a, xs, i, v, rfl, hy.int_eq, Or.inl (Or.inl (s _ _ hl)), hv, q v G1 H1 (.refl s) dv⟩
theorem rd_ixT (h : atI ds i = some d) : RD (rIxT K) (.tuple ds) (.int i) d := fun G1 H1 x y s hx hy Q q => by
  obtain ⟨a, xs, rfl, hl, ha⟩ := hx.tup_eq
  obtain ⟨v, hv, dv⟩ := atI_dx ha h
  exact ⟨a, xs, i, v, rfl, hy.int_eq, Or.inl (Or.inl (s _ _ hl)), hv, q v G1 H1 (.refl s) dv⟩
theorem rd_ixS {z : Str} {c : Nat} (hl : z.length ≤ 100000) (h : atI z.cps.toList i = some c) : RD rIxS (.str z) (.int i) (.str ⟨#[c]⟩) := fun G1 H1 x y s hx hy Q q =>
  ⟨z, i, c, hx.str_eq, hy.int_eq, Evl.sz_of hl, h, q _ G1 H1 (.refl s) (.str _)⟩
theorem rd_cat (hl : ds.length + es.length ≤ 100000) : RM rCat (.list ds) (.list es) (ds ++ es) := fun G1 H1 x y s hx hy Q q => by
  obtain ⟨a, xs, rfl, ha, dxs⟩ := hx.lst_eq
  obtain ⟨b, ys, rfl, hb, dys⟩ := hy.lst_eq
  exact ⟨a, b, xs, ys, rfl, rfl, s _ _ ha, s _ _ hb, Evl.sz_of (by rw [dxs.len, dys.len]; exact hl), fun p hp => q p _ G1 _ ((Gr.refl s).own hp) hp (s.none hp) upd_same (dxs.app dys)⟩
theorem dxs_rep {G : Hp} {xs : List V} (h : Dxs G xs ds) : ∀ n : Nat, Dxs G (List.replicate n xs).flatten (List.replicate n ds).flatten
  | 0 => .nil
  | n + 1 => by rw [List.replicate_succ, List.replicate_succ, List.flatten_cons, List.flatten_cons]; exact h.app (dxs_rep h n)
theorem rd_rep (h1 : -(2 ^ 63) ≤ i) (h2 : i < 2 ^ 63) (hl : ds.length * i.toNat ≤ 100000) : RM rRep (.list ds) (.int i) (List.replicate i.toNat ds).flatten := fun G1 H1 x y s hx hy Q q => by
  obtain ⟨a, xs, rfl, ha, dxs⟩ := hx.lst_eq
  exact ⟨a, i, xs, rfl, hy.int_eq, s _ _ ha, h1, h2, Evl.sz_of (by rw [dxs.len]; exact hl), fun p hp => q p _ G1 _ ((Gr.refl s).own hp) hp (s.none hp) upd_same (dxs_rep dxs _)⟩
theorem rd_addS {y z : Str} (h : y.length + z.length ≤ 100000) : RD (fun x y H Q => ∃ i j, x = .str i ∧ y = .str j ∧ i.length + j.length ≤ sizeLine ∧ Q (.str (i ++ j)) H) (.str y) (.str z) (.str (y ++ z)) := fun G1 _ _ _ s hx hy _ q =>
  ⟨y, z, hx.str_eq, hy.str_eq, Evl.sz_of h, q _ G1 _ (.refl s) (.str _)⟩
def cutD (xs : List PyData) (lo hi : Option Int) : List PyData := (xs.drop (HT.sIx xs.length 0 lo)).take (HT.sIx xs.length xs.length hi - HT.sIx xs.length 0 lo)
theorem ev_sl {σ : L2.St} {G H : Hp} {te : TE} {tl th : TO} {lo hi : Option Int} (h : EvD te σ G H (.list ds)) (h1 : EvO tl σ G H lo) (h2 : EvO th σ G H hi) : EvM (tSl (rSlL K) te tl th) σ G H (cutD ds lo hi) := fun G1 H1 a Q q =>
  h G1 H1 a _ fun v G2 H2 g x => h1 G2 H2 (a.trans g) _ fun G3 H3 g3 => h2 G3 H3 (a.trans (g.trans g3)) _ fun G4 H4 g4 => by
    obtain ⟨p, xs, rfl, hp, dxs⟩ := (x.mono (g3.g.trans g4.g)).lst_eq
    have gg := g.trans (g3.trans g4)
    refine ⟨p, xs, rfl, Or.inl (Or.inl (gg.s _ _ hp)), fun l hl => q l _ G4 _ (gg.own hl) (gg.free hl) (gg.s.none hl) upd_same ?_⟩
    unfold cutV cutD
    rw [dxs.len]
    exact (dxs.drop _).take _
theorem ev_slS {σ : L2.St} {G H : Hp} {te : TE} {tl th : TO} {lo hi : Option Int} {z : Str} (h : EvD te σ G H (.str z)) (h1 : EvO tl σ G H lo) (h2 : EvO th σ G H hi) (hz : z.length ≤ 100000) : EvD (tSl rSlS te tl th) σ G H (.str (cutS z lo hi)) := fun G1 H1 a Q q =>
  h G1 H1 a _ fun v G2 H2 g x => h1 G2 H2 (a.trans g) _ fun G3 H3 g3 => h2 G3 H3 (a.trans (g.trans g3)) _ fun G4 H4 g4 =>
    ⟨z, x.str_eq, Evl.sz_of hz, q _ G4 H4 (g.trans (g3.trans g4)) (.str _)⟩
/-! builtin calls -/
theorem cd_lenL : CD (fun xs H Q => ∃ p ys, xs = [.ref p] ∧ (SqL K H p ys ∨ SqT K H p ys) ∧ Q (.int ys.length) H) [.list ds] (.int ds.length) := fun G1 H1 vs s h Q q => by
  cases h with | cons h t => cases t with | nil =>
    obtain ⟨a, xs, rfl, ha, dxs⟩ := h.lst_eq
    refine ⟨a, xs, rfl, Or.inl (Or.inl (Or.inl (s _ _ ha))), ?_⟩
    rw [dxs.len]; exact q _ G1 H1 (.refl s) (.int _)
theorem cd_lenT : CD (fun xs H Q => ∃ p ys, xs = [.ref p] ∧ (SqL K H p ys ∨ SqT K H p ys) ∧ Q (.int ys.length) H) [.tuple ds] (.int ds.length) := fun G1 H1 vs s h Q q => by
  cases h with | cons h t => cases t with | nil =>
    obtain ⟨a, xs, rfl, ha, dxs⟩ := h.tup_eq
    refine ⟨a, xs, rfl, Or.inr (Or.inl (Or.inl (s _ _ ha))), ?_⟩
    rw [dxs.len]; exact q _ G1 H1 (.refl s) (.int _)
theorem cd_lenS {z : Str} (hz : z.length ≤ 100000) : CD (fun xs H Q => ∃ z, xs = [.str z] ∧ z.length ≤ sizeLine ∧ Q (.int z.length) H) [.str z] (.int z.length) := fun G1 H1 vs s h Q q => by
  cases h with | cons h t => cases t with | nil =>
    exact ⟨z, by rw [h.str_eq], Evl.sz_of hz, q _ G1 H1 (.refl s) (.int _)⟩
theorem cd_abs : CD (fun xs H Q => ∃ i, xs = [.int i] ∧ Q (.int (if i < 0 then -i else i)) H) [.int i] (.int (if i < 0 then -i else i)) := fun G1 H1 vs s h Q q => by
  cases h with | cons h t => cases t with | nil => exact ⟨i, by rw [h.int_eq], q _ G1 H1 (.refl s) (.int _)⟩
theorem cd_intB {b : Bool} : CD (fun xs H Q => (∃ i, xs = [.int i] ∧ Q (.int i) H) ∨ ∃ k, xs = [.bl k] ∧ Q (.int (if k then 1 else 0)) H) [.bool b] (.int (if b then 1 else 0)) := fun G1 H1 vs s h Q q => by
  cases h with | cons h t => cases t with | nil => exact Or.inr ⟨b, by rw [h.bl_eq], q _ G1 H1 (.refl s) (.int _)⟩
theorem cd_max2 : CD (fun xs H Q => ∃ i j, xs = [.int i, .int j] ∧ Q (.int (if j > i then j else i)) H) [.int i, .int j] (.int (if j > i then j else i)) := fun G1 H1 vs s h Q q => by
  cases h with | cons h t => cases t with | cons h2 t => cases t with | nil => exact ⟨i, j, by rw [h.int_eq, h2.int_eq], q _ G1 H1 (.refl s) (.int _)⟩
theorem cd_sum {ns : List Int} : CD (rSum K) [.list (ns.map .int)] (.int ns.sum) := fun G1 H1 vs s h Q q => by
  cases h with | cons h t => cases t with | nil =>
    obtain ⟨a, xs, rfl, ha, dxs⟩ := h.lst_eq
    rw [dxs.ints_eq] at ha
    exact ⟨a, ns, rfl, Or.inl (Or.inl (s _ _ ha)), q _ G1 H1 (.refl s) (.int _)⟩
theorem cd_all {bs : List Bool} : CD (rAll K) [.list (bs.map .bool)] (.bool (bs.all id)) := fun G1 H1 vs s h Q q => by
  cases h with | cons h t => cases t with | nil =>
    obtain ⟨a, xs, rfl, ha, dxs⟩ := h.lst_eq
    rw [dxs.bls_eq] at ha
    exact ⟨a, bs, rfl, Or.inl (Or.inl (s _ _ ha)), q _ G1 H1 (.refl s) (.bl _)⟩
theorem cd_listL : CM (fun xs H Q => ∃ p ys, xs = [.ref p] ∧ (SqL K H p ys ∨ SqT K H p ys) ∧ ∀ l, H l = none → Q (.ref l) (upd H l (.lst ys))) [.list ds] ds := fun G1 H1 vs s h Q q => by
  cases h with | cons h t => cases t with | nil =>
    obtain ⟨a, xs, rfl, ha, dxs⟩ := h.lst_eq
    exact ⟨a, xs, rfl, Or.inl (Or.inl (Or.inl (s _ _ ha))), fun l hl => q l xs G1 _ ((Gr.refl s).own hl) hl (s.none hl) upd_same dxs⟩
theorem cd_listT : CM (fun xs H Q => ∃ p ys, xs = [.ref p] ∧ (SqL K H p ys ∨ SqT K H p ys) ∧ ∀ l, H l = none → Q (.ref l) (upd H l (.lst ys))) [.tuple ds] ds := fun G1 H1 vs s h Q q => by
  cases h with | cons h t => cases t with | nil =>
    obtain ⟨a, xs, rfl, ha, dxs⟩ := h.tup_eq
    exact ⟨a, xs, rfl, Or.inr (Or.inl (Or.inl (s _ _ ha))), fun l hl => q l xs G1 _ ((Gr.refl s).own hl) hl (s.none hl) upd_same dxs⟩
end

/-! ### the promises of defs -/
/-- a value made of the arguments' data; nothing that stood changes -/
def SpD {α : Type} (args : α → List PyData) (pre : α → Prop) (f : α → PyData) : Sp := fun vs H Q _ => ∃ G x, Sb G H ∧ Dxs G vs (args x) ∧ pre x ∧ ∀ v G' H', Gr [] G H G' H' → Dx G' v (f x) → Q v H'
/-- the same, a new list of its own -/
def SpM {α : Type} (args : α → List PyData) (pre : α → Prop) (f : α → List PyData) : Sp := fun vs H Q _ => ∃ G x, Sb G H ∧ Dxs G vs (args x) ∧ pre x ∧ ∀ p xs G' H', Gr [] G H G' H' → H p = none → G' p = none → H' p = some (.lst xs) → Dxs G' xs (f x) → Q (.ref p) H'
section
variable {σ : L2.St} {G H : Hp} {ds : List PyData} {E : XK} {t : TA} {α : Type} {args : α → List PyData} {pre : α → Prop} {f : α → PyData} {fl : α → List PyData}
theorem ev_call (x : α) (h : EvA t σ G H (args x)) (hp : pre x) : EvD (tCall (SpD args pre f) [] E t) σ G H (f x) := fun G1 H1 a Q q =>
  h G1 H1 a _ fun vs G2 H2 g xs => ⟨G2, x, g.s, by rw [List.append_nil]; exact xs, hp, fun v G3 H3 g3 z => q v G3 H3 (g.trans g3) z⟩
theorem ev_callM (x : α) (h : EvA t σ G H (args x)) (hp : pre x) : EvM (tCall (SpM args pre fl) [] E t) σ G H (fl x) := fun G1 H1 a Q q =>
  h G1 H1 a _ fun vs G2 H2 g xs => ⟨G2, x, g.s, by rw [List.append_nil]; exact xs, hp, fun p ys G3 H3 g3 h0 hn h3 z => q p ys G3 H3 (g.trans g3) (g.free h0) hn h3 z⟩
theorem ev_callE {d : PyData} (x : α) (h : EvA t σ G H (args x)) (hp : pre x) (e : f x = d) : EvD (tCall (SpD args pre f) [] E t) σ G H d := e ▸ ev_call x h hp
theorem ev_callME {es : List PyData} (x : α) (h : EvA t σ G H (args x)) (hp : pre x) (e : fl x = es) : EvM (tCall (SpM args pre fl) [] E t) σ G H es := e ▸ ev_callM x h hp
end
theorem dxs1 {G : Hp} {vs : List V} {a : PyData} (h : Dxs G vs [a]) : ∃ x, vs = [x] ∧ Dx G x a := by
  cases h with | cons h t => cases t with | nil => exact ⟨_, rfl, h⟩
theorem dxs2 {G : Hp} {vs : List V} {a b : PyData} (h : Dxs G vs [a, b]) : ∃ x y, vs = [x, y] ∧ Dx G x a ∧ Dx G y b := by
  cases h with | cons h t => obtain ⟨y, rfl, hy⟩ := dxs1 t; exact ⟨_, y, rfl, h, hy⟩
theorem dxs3 {G : Hp} {vs : List V} {a b c : PyData} (h : Dxs G vs [a, b, c]) : ∃ x y z, vs = [x, y, z] ∧ Dx G x a ∧ Dx G y b ∧ Dx G z c := by
  cases h with | cons h t => obtain ⟨y, z, rfl, hy, hz⟩ := dxs2 t; exact ⟨_, y, z, rfl, h, hy, hz⟩
theorem dxs4 {G : Hp} {vs : List V} {a b c d : PyData} (h : Dxs G vs [a, b, c, d]) : ∃ x y z w, vs = [x, y, z, w] ∧ Dx G x a ∧ Dx G y b ∧ Dx G z c ∧ Dx G w d := by
  cases h with | cons h t => obtain ⟨y, z, w, rfl, hy, hz, hw⟩ := dxs3 t; exact ⟨_, y, z, w, rfl, h, hy, hz, hw⟩
theorem dxs5 {G : Hp} {vs : List V} {a b c d e : PyData} (h : Dxs G vs [a, b, c, d, e]) : ∃ x y z w u, vs = [x, y, z, w, u] ∧ Dx G x a ∧ Dx G y b ∧ Dx G z c ∧ Dx G w d ∧ Dx G u e := by
  cases h with | cons h t => obtain ⟨y, z, w, u, rfl, hy, hz, hw, hu⟩ := dxs4 t; exact ⟨_, y, z, w, u, rfl, h, hy, hz, hw, hu⟩

/-! ### statements -/
section
variable {K : PySem.W.Frag} {σ : L2.St} {G H : Hp} {ta tb te : TE} {tt : TT} {d : PyData} {ds : List PyData} {b : Bool} {D : Ends} {tu tw tz : TS} {i : Nat}
theorem s_asg (h : EvD te σ G H d) (s : Sb G H) (k : ∀ v G1 H1, Gr [] G H G1 H1 → Dx G1 v d → D.nx (σ.set i (some v)) H1) : tAsg te (gName i) D σ H := h G H (.refl s) _ k
theorem s_asgP {P : PyData → Prop} (h : EvP te σ G H P) (s : Sb G H) (k : ∀ v d G1 H1, Gr [] G H G1 H1 → P d → Dx G1 v d → D.nx (σ.set i (some v)) H1) : tAsg te (gName i) D σ H := h G H (.refl s) _ k
theorem s_asgM (h : EvM te σ G H ds) (s : Sb G H) (k : ∀ p xs G1 H1, Gr [] G H G1 H1 → H p = none → G1 p = none → H1 p = some (.lst xs) → Dxs G1 xs ds → D.nx (σ.set i (some (.ref p))) H1) : tAsg te (gName i) D σ H := h G H (.refl s) _ k
theorem s_ret (h : EvD te σ G H d) (s : Sb G H) (k : ∀ v G1 H1, Gr [] G H G1 H1 → Dx G1 v d → D.rt v H1) : tRet te D σ H := h G H (.refl s) _ k
theorem s_retM (h : EvM te σ G H ds) (s : Sb G H) (k : ∀ p xs G1 H1, Gr [] G H G1 H1 → H p = none → G1 p = none → H1 p = some (.lst xs) → Dxs G1 xs ds → D.rt (.ref p) H1) : tRet te D σ H := h G H (.refl s) _ k
theorem s_if (h : EvT tt σ G H b) (s : Sb G H) (h1 : b = true → ∀ G1 H1, Gr [] G H G1 H1 → tu D σ H1) (h2 : b = false → ∀ G1 H1, Gr [] G H G1 H1 → tw D σ H1) : tIfS tt tu tw D σ H := h G H (.refl s) _ fun G1 H1 g => by
  cases b with
  | true => exact iteT (h1 rfl G1 H1 g)
  | false => exact iteF (h2 rfl G1 H1 g)
theorem s_drop (h : EvD te σ G H d) (s : Sb G H) (k : ∀ G1 H1, Gr [] G H G1 H1 → D.nx σ H1) : tDrop te D σ H := h G H (.refl s) _ fun _ G1 H1 g _ => k G1 H1 g
/-- xs.append(e), xs an own list -/
theorem s_app {l : Addr} {xs : List V} (hv : σ[i]? = some (some (.ref l))) (hl : H l = some (.lst xs)) (hn : G l = none) (h : EvD te σ G H d) (s : Sb G H) (hz : xs.length < 100000)
    (k : ∀ v G1 H1, Gr [] G H G1 H1 → Dx G1 v d → Gr [l] G H G1 (upd H1 l (.lst (xs ++ [v]))) → G1 l = none → D.nx σ (upd H1 l (.lst (xs ++ [v])))) :
    tDrop (tBM K "list" rAppend (tVar i) (tCons te tNil)) D σ H :=
  ⟨.ref l, hv, Or.inl ⟨rfl, xs, Or.inl (Or.inl hl)⟩, h G H (.refl s) _ fun v G1 H1 g x =>
    ⟨l, xs, v, rfl, rfl, g.h l _ (by simp) hl, Evl.sz_lt hz, k v G1 H1 g x (g.any.write (Or.inl (by simp)) (g.n l _ hl hn)) (g.n l _ hl hn)⟩⟩
/-! sequences -/
theorem q_asg (h : EvD te σ G H d) (s : Sb G H) (k : ∀ v G1 H1, Gr [] G H G1 H1 → Dx G1 v d → tz D (σ.set i (some v)) H1) : tSeq (tAsg te (gName i)) tz D σ H := s_asg (D := { D with nx := tz D }) h s k
theorem q_asgP {P : PyData → Prop} (h : EvP te σ G H P) (s : Sb G H) (k : ∀ v d G1 H1, Gr [] G H G1 H1 → P d → Dx G1 v d → tz D (σ.set i (some v)) H1) : tSeq (tAsg te (gName i)) tz D σ H := s_asgP (D := { D with nx := tz D }) h s k
theorem q_asgM (h : EvM te σ G H ds) (s : Sb G H) (k : ∀ p xs G1 H1, Gr [] G H G1 H1 → H p = none → G1 p = none → H1 p = some (.lst xs) → Dxs G1 xs ds → tz D (σ.set i (some (.ref p))) H1) : tSeq (tAsg te (gName i)) tz D σ H := s_asgM (D := { D with nx := tz D }) h s k
theorem q_if (h : EvT tt σ G H b) (s : Sb G H) (h1 : b = true → ∀ G1 H1, Gr [] G H G1 H1 → tu { D with nx := tz D } σ H1) (h2 : b = false → ∀ G1 H1, Gr [] G H G1 H1 → tw { D with nx := tz D } σ H1) : tSeq (tIfS tt tu tw) tz D σ H := s_if (D := { D with nx := tz D }) h s h1 h2
theorem q_when (h : EvT tt σ G H b) (s : Sb G H) (h1 : b = true → ∀ G1 H1, Gr [] G H G1 H1 → tu { D with nx := tz D } σ H1) (h2 : b = false → ∀ G1 H1, Gr [] G H G1 H1 → tz D σ H1) : tSeq (tIfS tt tu tNext) tz D σ H := s_if (D := { D with nx := tz D }) h s h1 h2
theorem q_drop (h : EvD te σ G H d) (s : Sb G H) (k : ∀ G1 H1, Gr [] G H G1 H1 → tz D σ H1) : tSeq (tDrop te) tz D σ H := s_drop (D := { D with nx := tz D }) h s k
theorem q_app {l : Addr} {xs : List V} (hv : σ[i]? = some (some (.ref l))) (hl : H l = some (.lst xs)) (hn : G l = none) (h : EvD te σ G H d) (s : Sb G H) (hz : xs.length < 100000)
    (k : ∀ v G1 H1, Gr [] G H G1 H1 → Dx G1 v d → Gr [l] G H G1 (upd H1 l (.lst (xs ++ [v]))) → G1 l = none → tz D σ (upd H1 l (.lst (xs ++ [v])))) :
    tSeq (tDrop (tBM K "list" rAppend (tVar i) (tCons te tNil))) tz D σ H := s_app (D := { D with nx := tz D }) hv hl hn h s hz k
/-! loops: I, a word of the turn, the slots, the data heap and the heap -/
def Nx (M : List Addr) (G H : Hp) (I : Nat → L2.St → Hp → Hp → Prop) (n : Nat) : L2.St → Hp → Prop := fun σ' H' => ∃ G', Gr M G H G' H' ∧ I n σ' G' H'
theorem s_forL {tl : TE} {g : TG} (M : List Addr) (I : Nat → L2.St → Hp → Hp → Prop) (h : EvD tl σ G H (.list ds)) (s : Sb G H) (h0 : ∀ G1 H1, Gr [] G H G1 H1 → I 0 σ G1 H1)
    (hs : ∀ G1 H1, Gr [] G H G1 H1 → ∀ n d v σ' G' H', ds[n]? = some d → Dx G' v d → Gr M G1 H1 G' H' → I n σ' G' H' → g v σ' H' fun σ2 H2 => tu { D with nx := Nx M G1 H1 I (n + 1), ct := Nx M G1 H1 I (n + 1), bk := D.nx } σ2 H2)
    (hd : ∀ σ' G' H', Gr M G H G' H' → I ds.length σ' G' H' → D.nx σ' H') : tFor (iList K tl) g tu D σ H :=
  h G H (.refl s) _ fun v G1 H1 g1 x => by
    obtain ⟨a, xs, rfl, ha, dxs⟩ := x.lst_eq
    refine ⟨a, rfl, ⟨xs, Or.inl (Or.inl (g1.s _ _ ha))⟩, for_list (xs := xs) (Nx M G1 H1 I) ⟨G1, .refl g1.s, h0 G1 H1 g1⟩ (fun n σ' H' _ p => ?_) (fun n x σ' H' hx p => ?_) (fun σ' H' p => ?_)⟩
    · obtain ⟨G', g', _⟩ := p
      exact Or.inl (Or.inl (g'.s _ _ (g'.g _ _ ha)))
    · obtain ⟨G', g', w⟩ := p
      obtain ⟨d, hd1, hd2⟩ := dxs.getV hx
      exact hs G1 H1 g1 n d x σ' G' H' hd1 (hd2.mono g'.g) g' w
    · obtain ⟨G', g', w⟩ := p
      rw [dxs.len] at w
      exact hd σ' G' H' (g1.any.trans g') w
theorem s_forT {tl : TE} {g : TG} (M : List Addr) (I : Nat → L2.St → Hp → Hp → Prop) (h : EvD tl σ G H (.tuple ds)) (s : Sb G H) (h0 : ∀ G1 H1, Gr [] G H G1 H1 → I 0 σ G1 H1)
    (hs : ∀ G1 H1, Gr [] G H G1 H1 → ∀ n d v σ' G' H', ds[n]? = some d → Dx G' v d → Gr M G1 H1 G' H' → I n σ' G' H' → g v σ' H' fun σ2 H2 => tu { D with nx := Nx M G1 H1 I (n + 1), ct := Nx M G1 H1 I (n + 1), bk := D.nx } σ2 H2)
    (hd : ∀ σ' G' H', Gr M G H G' H' → I ds.length σ' G' H' → D.nx σ' H') : tFor (iTup K tl) g tu D σ H :=
  h G H (.refl s) _ fun v G1 H1 g1 x => by
    obtain ⟨a, xs, rfl, ha, dxs⟩ := x.tup_eq
    refine ⟨a, rfl, ⟨xs, Or.inl (Or.inl (g1.s _ _ ha))⟩, for_tup (xs := xs) (Nx M G1 H1 I) ⟨G1, .refl g1.s, h0 G1 H1 g1⟩ (fun n σ' H' _ p => ?_) (fun n x σ' H' hx p => ?_) (fun σ' H' p => ?_)⟩
    · obtain ⟨G', g', _⟩ := p
      exact Or.inl (Or.inl (g'.s _ _ (g'.g _ _ ha)))
    · obtain ⟨G', g', w⟩ := p
      obtain ⟨d, hd1, hd2⟩ := dxs.getV hx
      exact hs G1 H1 g1 n d x σ' G' H' hd1 (hd2.mono g'.g) g' w
    · obtain ⟨G', g', w⟩ := p
      rw [dxs.len] at w
      exact hd σ' G' H' (g1.any.trans g') w
/-- for i in range(m) -/
theorem s_forR {t : TA} {j : Nat} {m : Int} (M : List Addr) (I : Nat → L2.St → Hp → Hp → Prop) (h : EvA t σ G H [.int m]) (hm : 0 ≤ m ∧ m ≤ 100000) (s : Sb G H) (h0 : ∀ G1 H1, Gr [] G H G1 H1 → I 0 σ G1 H1)
    (hs : ∀ G1 H1, Gr [] G H G1 H1 → ∀ (n : Nat) σ' G' H', (n : Int) < m → Gr M G1 H1 G' H' → I n σ' G' H' → tu { D with nx := Nx M G1 H1 I (n + 1), ct := Nx M G1 H1 I (n + 1), bk := D.nx } (σ'.set j (some (.int (n : Int)))) H')
    (hd : ∀ σ' G' H', Gr M G H G' H' → I m.toNat σ' G' H' → D.nx σ' H') : tFor (iRng1 t) (gName j) tu D σ H :=
  h G H (.refl s) _ fun vs G1 H1 g1 x => by
    obtain ⟨v, rfl, hv⟩ := dxs1 x
    refine ⟨m, by rw [hv.int_eq], by omega, by omega, for_range (lo := 0) (n := m.toNat) (Nx M G1 H1 I) ⟨G1, .refl g1.s, h0 G1 H1 g1⟩ (fun n σ' H' hn p => ?_) (fun σ' H' p => ?_)⟩
    · obtain ⟨G', g', w⟩ := p
      have e0 : (0 : Int) + (n : Int) = (n : Int) := Int.zero_add _
      show tu _ (σ'.set j (some (.int ((0 : Int) + (n : Int))))) H'
      rw [e0]
      exact hs G1 H1 g1 n σ' G' H' (by omega) g' w
    · obtain ⟨G', g', w⟩ := p
      exact hd σ' G' H' (g1.any.trans g') w
theorem q_forL {tl : TE} {g : TG} (M : List Addr) (I : Nat → L2.St → Hp → Hp → Prop) (h : EvD tl σ G H (.list ds)) (s : Sb G H) (h0 : ∀ G1 H1, Gr [] G H G1 H1 → I 0 σ G1 H1)
    (hs : ∀ G1 H1, Gr [] G H G1 H1 → ∀ n d v σ' G' H', ds[n]? = some d → Dx G' v d → Gr M G1 H1 G' H' → I n σ' G' H' → g v σ' H' fun σ2 H2 => tu { D with nx := Nx M G1 H1 I (n + 1), ct := Nx M G1 H1 I (n + 1), bk := tz D } σ2 H2)
    (hd : ∀ σ' G' H', Gr M G H G' H' → I ds.length σ' G' H' → tz D σ' H') : tSeq (tFor (iList K tl) g tu) tz D σ H := s_forL (D := { D with nx := tz D }) M I h s h0 hs hd
theorem q_forT {tl : TE} {g : TG} (M : List Addr) (I : Nat → L2.St → Hp → Hp → Prop) (h : EvD tl σ G H (.tuple ds)) (s : Sb G H) (h0 : ∀ G1 H1, Gr [] G H G1 H1 → I 0 σ G1 H1)
    (hs : ∀ G1 H1, Gr [] G H G1 H1 → ∀ n d v σ' G' H', ds[n]? = some d → Dx G' v d → Gr M G1 H1 G' H' → I n σ' G' H' → g v σ' H' fun σ2 H2 => tu { D with nx := Nx M G1 H1 I (n + 1), ct := Nx M G1 H1 I (n + 1), bk := tz D } σ2 H2)
    (hd : ∀ σ' G' H', Gr M G H G' H' → I ds.length σ' G' H' → tz D σ' H') : tSeq (tFor (iTup K tl) g tu) tz D σ H := s_forT (D := { D with nx := tz D }) M I h s h0 hs hd
theorem q_forR {t : TA} {j : Nat} {m : Int} (M : List Addr) (I : Nat → L2.St → Hp → Hp → Prop) (h : EvA t σ G H [.int m]) (hm : 0 ≤ m ∧ m ≤ 100000) (s : Sb G H) (h0 : ∀ G1 H1, Gr [] G H G1 H1 → I 0 σ G1 H1)
    (hs : ∀ G1 H1, Gr [] G H G1 H1 → ∀ (n : Nat) σ' G' H', (n : Int) < m → Gr M G1 H1 G' H' → I n σ' G' H' → tu { D with nx := Nx M G1 H1 I (n + 1), ct := Nx M G1 H1 I (n + 1), bk := tz D } (σ'.set j (some (.int (n : Int)))) H')
    (hd : ∀ σ' G' H', Gr M G H G' H' → I m.toNat σ' G' H' → tz D σ' H') : tSeq (tFor (iRng1 t) (gName j) tu) tz D σ H := s_forR (D := { D with nx := tz D }) M I h hm s h0 hs hd
end

/-! ### comprehensions -/
def given {β : Type} (n : Nat) (f : Nat → Bool) (v : Nat → β) : List β := ((List.range n).filter f).map v
theorem given_yes {β : Type} {n : Nat} {f : Nat → Bool} {v : Nat → β} (h : f n = true) : given (n + 1) f v = given n f v ++ [v n] := by
  unfold given
  rw [List.range_succ, List.filter_append, List.map_append, List.filter_cons, if_pos h] <;> rfl
theorem given_no {β : Type} {n : Nat} {f : Nat → Bool} {v : Nat → β} (h : f n = false) : given (n + 1) f v = given n f v := by
  unfold given
  rw [List.range_succ, List.filter_append, List.map_append, List.filter_cons, if_neg (by rw [h]; decide)]
  show _ ++ [] = _
  rw [List.append_nil]
theorem given_len {β : Type} (n : Nat) (f : Nat → Bool) (v : Nat → β) : (given n f v).length ≤ n := by
  unfold given
  rw [List.length_map]
  have h := List.length_filter_le f (List.range n)
  rw [List.length_range] at h
  exact h
section
variable {K : PySem.W.Frag} {σ : L2.St} {G H : Hp} {ta tb te : TE} {tt : TT} {d : PyData} {ds : List PyData}
/-- while the new list at l is being filled -/
def Cw (G H : Hp) (f : Nat → Bool) (v : Nat → PyData) (l : Addr) (i : Nat) (H' : Hp) : Prop := ∃ G' xs, Gr [] G H G' H' ∧ G' l = none ∧ H' l = some (.lst xs) ∧ Dxs G' xs (given i f v)
theorem cw_turn {H' : Hp} {f : Nat → Bool} {v : Nat → PyData} {l : Addr} {i : Nat} {σ2 : L2.St} (hl : H l = none) (p : Cw G H f v l i H') (hi : i < 50000)
    (ht : EvT tt σ2 G H (f i)) (he : f i = true → EvD te σ2 G H (v i)) :
    tt σ2 H' fun b H3 => if b = true then te σ2 H3 fun y H4 => ∃ acc, H4 l = some (.lst acc) ∧ acc.length < sizeLine ∧ Cw G H f v l (i + 1) (upd H4 l (.lst (acc ++ [y]))) else Cw G H f v l (i + 1) H3 := by
  obtain ⟨G', xs, g, hn', hx, dx⟩ := p
  refine ht G' H' g _ fun G3 H3 g3 => ?_
  cases hf : f i with
  | true =>
    refine iteT (he hf G3 H3 (g.trans g3) _ fun y G4 H4 g4 hy => ?_)
    have g34 := g3.trans g4
    refine ⟨xs, g34.h l _ (by simp) hx, Evl.sz_lt (by rw [dx.len]; have := given_len i f v; omega), G4, xs ++ [y], ?_, g34.n l _ hx hn', upd_same, ?_⟩
    · exact (g.trans g34).write (Or.inr hl) (g34.n l _ hx hn')
    · rw [given_yes hf]
      exact (dx.mono g34.g).app (Dxs.one hy)
  | false =>
    refine iteF ⟨G3, xs, g.trans g3, g3.n l _ hx hn', g3.h l _ (by simp) hx, ?_⟩
    rw [given_no hf]
    exact dx.mono g3.g
/-- [e for j in range(m) if t] -/
theorem ev_lcR {t : TA} {j : Nat} {vs : List Nat} {m : Int} (f : Nat → Bool) (v : Nat → PyData) (h : EvA t σ G H [.int m]) (hm : 0 ≤ m ∧ m ≤ 40000) (hw : ∀ x, wipe ((wipe σ vs).set j (some x)) vs = wipe σ vs)
    (ht : ∀ (i : Nat), (i : Int) < m → EvT tt ((wipe σ vs).set j (some (.int (i : Int)))) G H (f i)) (he : ∀ (i : Nat), (i : Int) < m → f i = true → EvD te ((wipe σ vs).set j (some (.int (i : Int)))) G H (v i)) :
    EvM (tLc (iRng1 t) (gName j) tt te vs) σ G H (given m.toNat f v) := fun G0 H0 a Q q => h G0 H0 a _ fun us G1 H1 g1 x => by
  obtain ⟨u, rfl, hu⟩ := dxs1 x
  have gg := a.trans g1
  refine ⟨m, by rw [hu.int_eq], by omega, by omega, fun l hl => lc_range (lo := 0) (n := m.toNat) (Cw G1 H1 f v l) ⟨G1, [], (Gr.refl g1.s).own hl, g1.s.none hl, upd_same, by exact .nil⟩ (fun i H' hi p => ?_) (fun H' p => ?_)⟩
  · have e0 : (0 : Int) + (i : Int) = (i : Int) := Int.zero_add _
    show wipe ((wipe σ vs).set j (some (.int ((0 : Int) + (i : Int))))) vs = wipe σ vs ∧ tt ((wipe σ vs).set j (some (.int ((0 : Int) + (i : Int))))) H' _
    rw [e0]
    exact ⟨hw _, cw_turn hl p (by omega) ((ht i (by omega)).mono gg) (fun hf => (he i (by omega) hf).mono gg)⟩
  · obtain ⟨G', xs, k1, k2, k3, k4⟩ := p
    exact q l xs G' H' (g1.trans k1) (g1.free hl) k2 k3 k4
/-- [e for x in xs if t], the target any -/
theorem ev_lcL {tl : TE} {g : TG} {vs : List Nat} (f : Nat → Bool) (v : Nat → PyData) (h : EvD tl σ G H (.list ds)) (hz : ds.length ≤ 40000)
    (ht : ∀ (i : Nat) (d : PyData) (x : V) G1 H1 H' (Q : L2.St → Hp → Prop), Gr [] G H G1 H1 → ds[i]? = some d → Dx G1 x d → Sb G1 H' → (∀ σ2, wipe σ2 vs = wipe σ vs → EvT tt σ2 G1 H1 (f i) → (f i = true → EvD te σ2 G1 H1 (v i)) → Q σ2 H') → g x (wipe σ vs) H' Q) :
    EvM (tLc (iList K tl) g tt te vs) σ G H (given ds.length f v) := fun G0 H0 a Q q => h G0 H0 a _ fun u G1 H1 g1 x => by
  obtain ⟨p, xs, rfl, hp, dxs⟩ := x.lst_eq
  refine ⟨p, rfl, ⟨xs, Or.inl (Or.inl (g1.s _ _ hp))⟩, fun l hl => lc_list (xs := xs) (Cw G1 H1 f v l) ⟨G1, [], (Gr.refl g1.s).own hl, g1.s.none hl, upd_same, by exact .nil⟩ (fun i H' _ w => ?_) (fun i x H' hx w => ?_) (fun H' w => ?_)⟩
  · obtain ⟨G', ys, gg, _, _⟩ := w
    exact Or.inl (Or.inl (gg.s _ _ (gg.g _ _ hp)))
  · obtain ⟨d, hd1, hd2⟩ := dxs.getV hx
    have hi : i < ds.length := (List.getElem?_eq_some_iff.mp hd1).1
    have w0 := w
    obtain ⟨G', ys, gg, _, _⟩ := w0
    refine ht i d x G1 H1 H' _ (a.trans g1) hd1 hd2 (gg.g.trans gg.s) fun σ2 hw h1 h2 => ⟨hw, ?_⟩
    exact cw_turn hl w (by omega) h1 h2
  · rw [dxs.len] at w
    obtain ⟨G', xs, k1, k2, k3, k4⟩ := w
    exact q l xs G' H' (g1.trans k1) (g1.free hl) k2 k3 k4
theorem ev_lcT {tl : TE} {g : TG} {vs : List Nat} (f : Nat → Bool) (v : Nat → PyData) (h : EvD tl σ G H (.tuple ds)) (hz : ds.length ≤ 40000)
    (ht : ∀ (i : Nat) (d : PyData) (x : V) G1 H1 H' (Q : L2.St → Hp → Prop), Gr [] G H G1 H1 → ds[i]? = some d → Dx G1 x d → Sb G1 H' → (∀ σ2, wipe σ2 vs = wipe σ vs → EvT tt σ2 G1 H1 (f i) → (f i = true → EvD te σ2 G1 H1 (v i)) → Q σ2 H') → g x (wipe σ vs) H' Q) :
    EvM (tLc (iTup K tl) g tt te vs) σ G H (given ds.length f v) := fun G0 H0 a Q q => h G0 H0 a _ fun u G1 H1 g1 x => by
  obtain ⟨p, xs, rfl, hp, dxs⟩ := x.tup_eq
  refine ⟨p, rfl, ⟨xs, Or.inl (Or.inl (g1.s _ _ hp))⟩, fun l hl => lc_tup (xs := xs) (Cw G1 H1 f v l) ⟨G1, [], (Gr.refl g1.s).own hl, g1.s.none hl, upd_same, by exact .nil⟩ (fun i H' _ w => ?_) (fun i x H' hx w => ?_) (fun H' w => ?_)⟩
  · obtain ⟨G', ys, gg, _, _⟩ := w
    exact Or.inl (Or.inl (gg.s _ _ (gg.g _ _ hp)))
  · obtain ⟨d, hd1, hd2⟩ := dxs.getV hx
    have hi : i < ds.length := (List.getElem?_eq_some_iff.mp hd1).1
    have w0 := w
    obtain ⟨G', ys, gg, _, _⟩ := w0
    refine ht i d x G1 H1 H' _ (a.trans g1) hd1 hd2 (gg.g.trans gg.s) fun σ2 hw h1 h2 => ⟨hw, ?_⟩
    exact cw_turn hl w (by omega) h1 h2
  · rw [dxs.len] at w
    obtain ⟨G', xs, k1, k2, k3, k4⟩ := w
    exact q l xs G' H' (g1.trans k1) (g1.free hl) k2 k3 k4
/-- .. the target a name -/
theorem ev_lcLn {tl : TE} {j : Nat} {vs : List Nat} (f : Nat → Bool) (v : Nat → PyData) (h : EvD tl σ G H (.list ds)) (hz : ds.length ≤ 40000) (hw : ∀ x, wipe ((wipe σ vs).set j (some x)) vs = wipe σ vs)
    (ht : ∀ (i : Nat) (d : PyData) (x : V) G1 H1, Gr [] G H G1 H1 → ds[i]? = some d → Dx G1 x d → EvT tt ((wipe σ vs).set j (some x)) G1 H1 (f i)) (he : ∀ (i : Nat) (d : PyData) (x : V) G1 H1, Gr [] G H G1 H1 → ds[i]? = some d → Dx G1 x d → f i = true → EvD te ((wipe σ vs).set j (some x)) G1 H1 (v i)) :
    EvM (tLc (iList K tl) (gName j) tt te vs) σ G H (given ds.length f v) := ev_lcL f v h hz fun i d x G1 H1 H' Q s hd hx _ q => q _ (hw x) (ht i d x G1 H1 s hd hx) (he i d x G1 H1 s hd hx)
theorem ev_lcTn {tl : TE} {j : Nat} {vs : List Nat} (f : Nat → Bool) (v : Nat → PyData) (h : EvD tl σ G H (.tuple ds)) (hz : ds.length ≤ 40000) (hw : ∀ x, wipe ((wipe σ vs).set j (some x)) vs = wipe σ vs)
    (ht : ∀ (i : Nat) (d : PyData) (x : V) G1 H1, Gr [] G H G1 H1 → ds[i]? = some d → Dx G1 x d → EvT tt ((wipe σ vs).set j (some x)) G1 H1 (f i)) (he : ∀ (i : Nat) (d : PyData) (x : V) G1 H1, Gr [] G H G1 H1 → ds[i]? = some d → Dx G1 x d → f i = true → EvD te ((wipe σ vs).set j (some x)) G1 H1 (v i)) :
    EvM (tLc (iTup K tl) (gName j) tt te vs) σ G H (given ds.length f v) := ev_lcT f v h hz fun i d x G1 H1 H' Q s hd hx _ q => q _ (hw x) (ht i d x G1 H1 s hd hx) (he i d x G1 H1 s hd hx)
end

/-! ### names of the built-ins -/
structure Bi (mg : Str → Option Value) : Prop where
  len : mg "len" = none
  range : mg "range" = none
  abs : mg "abs" = none
  int_ : mg "int" = none
  sum : mg "sum" = none
  isinstance : mg "isinstance" = none
  tuple : mg "tuple" = none
  list : mg "list" = none
  all : mg "all" = none
  bool : mg "bool" = none
  max : mg "max" = none
  enumerate : mg "enumerate" = none
  sorted : mg "sorted" = none
  str_ : mg "str" = none
/-! ### lists beside the data -/
theorem sq_gr {K : PySem.W.Frag} {M : List Addr} {G H G' H' : Hp} {a : Addr} {xs : List V} (g : Gr M G H G' H') (hm : a ∉ M) (h : SqL K H a xs) : SqL K H' a xs := by
  rcases h with (h | ⟨o, h⟩) | h
  · exact Or.inl (Or.inl (g.h a _ hm h))
  · exact Or.inl (Or.inr ⟨o, g.h a _ hm h⟩)
  · exact Or.inr h
theorem rd_fdivW {i j : Int} (h : CDivW i j) : RD (rI CDivW fun i j => .int (i / j)) (.int i) (.int j) (.int (i / j)) := rd_I h fun _ => .int _
theorem atI_int {ns : List Int} {i : Int} (h0 : 0 ≤ i) (h : i < ns.length) : atI (ns.map PyData.int) i = some (.int (ns.getD i.toNat 0)) := by
  obtain ⟨k, rfl⟩ : ∃ k : Nat, i = (k : Int) := ⟨i.toNat, by omega⟩
  have hk : k < ns.length := by omega
  refine atI_nat ?_
  rw [List.getElem?_map, List.getElem?_eq_getElem hk]
  show some (PyData.int ns[k]) = some (PyData.int (ns.getD k 0))
  rw [List.getD_eq_getElem?_getD, List.getElem?_eq_getElem hk]
  rfl

/-! ### one own list at l, seen from (B, C) where it was not yet written so -/
structure Ow (B C G H : Hp) (l : Addr) (xs : List V) : Prop where
  g : Gr [l] B C G H
  hl : H l = some (.lst xs)
  hn : G l = none
theorem Ow.s {B C G H : Hp} {l : Addr} {xs : List V} (o : Ow B C G H l xs) : Sb G H := o.g.s
theorem Ow.mk0 {B C G H : Hp} {l : Addr} {xs : List V} (g : Gr [] B C G H) (hl : H l = some (.lst xs)) (hn : G l = none) : Ow B C G H l xs := ⟨g.any, hl, hn⟩
theorem Ow.step {B C G H G' H' : Hp} {l : Addr} {xs : List V} (o : Ow B C G H l xs) (g : Gr [] G H G' H') : Ow B C G' H' l xs := ⟨o.g.trans g.any, g.h l _ (by simp) o.hl, g.n l _ o.hl o.hn⟩
theorem Ow.put {B C G H G' H' : Hp} {l : Addr} {xs : List V} (o : Ow B C G H l xs) (g : Gr [] G H G' H') (ys : List V) : Ow B C G' (upd H' l (.lst ys)) l ys :=
  ⟨(o.g.trans g.any).write (Or.inl (by simp)) (o.step g).hn, upd_same, (o.step g).hn⟩
/-- a list that is read stays while l is written -/
theorem Ow.sq {K : PySem.W.Frag} {B C G H : Hp} {l a : Addr} {xs ys : List V} (o : Ow B C G H l xs) (h0 : C l = none) (h : SqL K C a ys) : SqL K H a ys := sq_gr (o.g.drop h0) (by simp) h
theorem q_app' {K : PySem.W.Frag} {σ : L2.St} {B C G H : Hp} {te : TE} {d : PyData} {D : Ends} {tz : TS} {i : Nat} {l : Addr} {xs : List V} (o : Ow B C G H l xs) (hv : σ[i]? = some (some (.ref l))) (h : EvD te σ G H d) (hz : xs.length < 100000)
    (k : ∀ v G1 H1, Dx G1 v d → Gr [] G H G1 H1 → Ow B C G1 (upd H1 l (.lst (xs ++ [v]))) l (xs ++ [v]) → tz D σ (upd H1 l (.lst (xs ++ [v])))) :
    tSeq (tDrop (tBM K "list" rAppend (tVar i) (tCons te tNil))) tz D σ H := q_app hv o.hl o.hn h o.s hz fun v G1 H1 g x _ _ => k v G1 H1 x g (o.put g _)
theorem s_app' {K : PySem.W.Frag} {σ : L2.St} {B C G H : Hp} {te : TE} {d : PyData} {D : Ends} {i : Nat} {l : Addr} {xs : List V} (o : Ow B C G H l xs) (hv : σ[i]? = some (some (.ref l))) (h : EvD te σ G H d) (hz : xs.length < 100000)
    (k : ∀ v G1 H1, Dx G1 v d → Gr [] G H G1 H1 → Ow B C G1 (upd H1 l (.lst (xs ++ [v]))) l (xs ++ [v]) → D.nx σ (upd H1 l (.lst (xs ++ [v])))) :
    tDrop (tBM K "list" rAppend (tVar i) (tCons te tNil)) D σ H := s_app hv o.hl o.hn h o.s hz fun v G1 H1 g x _ _ => k v G1 H1 x g (o.put g _)

/-! ### isinstance -/
def tyN : PyData → String
  | .none => "NoneType"
  | .bool _ => "bool"
  | .int _ => "int"
  | .str _ => "str"
  | .list _ => "list"
  | .tuple _ => "tuple"
  | .dict _ => "dict"
theorem dx_ty {K : PySem.W.Frag} {G H : Hp} {v : V} {d : PyData} (s : Sb G H) (x : Dx G v d) : TyX K H v (.type (tyN d)) := by
  cases x with
  | non => exact .base .non
  | bl b => exact .base (.bl b)
  | int i => exact .base (.int i)
  | str z => exact .base (.str z)
  | lst h _ => exact .base (.lst (s _ _ h))
  | tup h _ => exact .base (.tup (s _ _ h))
section
variable {K : PySem.W.Frag} {σ : L2.St} {G H : Hp} {ta : TE} {d : PyData}
theorem ev_isi {T : String} {b : Bool} (h : EvD ta σ G H d) (hb : kitB (tyN d) T = some b) : EvD (tCB (rIsi K) (tCons ta (tCons (tC (.ty T)) tNil))) σ G H (.bool b) := fun G1 H1 a Q q =>
  h G1 H1 a _ fun v G2 H2 g x => ⟨v, .ty T, .type (tyN d), .type T, b, rfl, .ty T, dx_ty g.s x, kit_ty hb, q _ G2 H2 g (.bl _)⟩
theorem ev_isiT2 {T U : String} {b c : Bool} (h : EvD ta σ G H d) (hb : kitB (tyN d) T = some b) (hc : kitB (tyN d) U = some c) :
    EvD (tCB (rIsiT K) (tCons ta (tCons (tTup (tCons (tC (.ty T)) (tCons (tC (.ty U)) tNil))) tNil))) σ G H (.bool (b || c)) := fun G1 H1 a Q q =>
  h G1 H1 a _ fun v G2 H2 g x => ⟨by show 2 ≤ sizeLine; decide, fun p hp => ⟨v, p, [.ty T, .ty U], .type (tyN d), [.type T, .type U], b || c, rfl, upd_same, .cons (.ty T) (.cons (.ty U) .nil),
    dx_ty (Sb.new hp) (x.mono g.s), kitAny_cons (kit_ty hb) (fun e => kitAny_cons (kit_ty hc) (fun e2 => by rw [e, e2]; rfl) (fun e2 => by rw [e, e2]; rfl)) (fun e => by rw [e]; rfl),
    q _ G2 _ (g.own hp) (.bl _)⟩⟩
end
theorem kit_NoneType_bool : kitB "NoneType" "bool" = some false := by decide +kernel
theorem kit_NoneType_int : kitB "NoneType" "int" = some false := by decide +kernel
theorem kit_NoneType_str : kitB "NoneType" "str" = some false := by decide +kernel
theorem kit_NoneType_list : kitB "NoneType" "list" = some false := by decide +kernel
theorem kit_NoneType_tuple : kitB "NoneType" "tuple" = some false := by decide +kernel
theorem kit_bool_bool : kitB "bool" "bool" = some true := by decide +kernel
theorem kit_bool_int : kitB "bool" "int" = some true := by decide +kernel
theorem kit_bool_str : kitB "bool" "str" = some false := by decide +kernel
theorem kit_bool_list : kitB "bool" "list" = some false := by decide +kernel
theorem kit_bool_tuple : kitB "bool" "tuple" = some false := by decide +kernel
theorem kit_int_bool : kitB "int" "bool" = some false := by decide +kernel
theorem kit_int_int : kitB "int" "int" = some true := by decide +kernel
theorem kit_int_str : kitB "int" "str" = some false := by decide +kernel
theorem kit_int_list : kitB "int" "list" = some false := by decide +kernel
theorem kit_int_tuple : kitB "int" "tuple" = some false := by decide +kernel
theorem kit_str_bool : kitB "str" "bool" = some false := by decide +kernel
theorem kit_str_int : kitB "str" "int" = some false := by decide +kernel
theorem kit_str_str : kitB "str" "str" = some true := by decide +kernel
theorem kit_str_list : kitB "str" "list" = some false := by decide +kernel
theorem kit_str_tuple : kitB "str" "tuple" = some false := by decide +kernel
theorem kit_list_bool : kitB "list" "bool" = some false := by decide +kernel
theorem kit_list_int : kitB "list" "int" = some false := by decide +kernel
theorem kit_list_str : kitB "list" "str" = some false := by decide +kernel
theorem kit_list_list : kitB "list" "list" = some true := by decide +kernel
theorem kit_list_tuple : kitB "list" "tuple" = some false := by decide +kernel
theorem kit_tuple_bool : kitB "tuple" "bool" = some false := by decide +kernel
theorem kit_tuple_int : kitB "tuple" "int" = some false := by decide +kernel
theorem kit_tuple_str : kitB "tuple" "str" = some false := by decide +kernel
theorem kit_tuple_list : kitB "tuple" "list" = some false := by decide +kernel
theorem kit_tuple_tuple : kitB "tuple" "tuple" = some true := by decide +kernel
/-! ### texts -/
theorem rd_leS {y z : Str} : RD (fun x y H Q => ∃ i j, x = .str i ∧ y = .str j ∧ Q (.bl (!decide (j.cps.toList < i.cps.toList))) H) (.str y) (.str z) (.bool (!decide (z.cps.toList < y.cps.toList))) := fun G1 _ _ _ s hx hy _ q =>
  ⟨y, z, hx.str_eq, hy.str_eq, q _ G1 _ (.refl s) (.bl _)⟩
theorem rd_ltS {y z : Str} : RD (fun x y H Q => ∃ i j, x = .str i ∧ y = .str j ∧ Q (.bl (decide (i.cps.toList < j.cps.toList))) H) (.str y) (.str z) (.bool (decide (y.cps.toList < z.cps.toList))) := fun G1 _ _ _ s hx hy _ q =>
  ⟨y, z, hx.str_eq, hy.str_eq, q _ G1 _ (.refl s) (.bl _)⟩
theorem rd_InC {c : Nat} {z : Str} : RD (fun x y H Q => ∃ (c : Nat) (z : Str), x = .str ⟨#[c]⟩ ∧ y = .str z ∧ Q (.bl (decide (c ∈ z.cps.toList))) H) (.str ⟨#[c]⟩) (.str z) (.bool (decide (c ∈ z.cps.toList))) := fun G1 _ _ _ s hx hy _ q =>
  ⟨c, z, hx.str_eq, hy.str_eq, q _ G1 _ (.refl s) (.bl _)⟩
def repS (z : Str) (n : Int) : Str := if (n == 1 || z.length == 0) = true then z else ⟨(List.replicate n.toNat z.cps).foldl (· ++ ·) #[]⟩
theorem rep_size (a : Array Nat) : ∀ (k : Nat) (acc : Array Nat), ((List.replicate k a).foldl (· ++ ·) acc).size = acc.size + k * a.size
  | 0, acc => by simp
  | k + 1, acc => by
    rw [List.replicate_succ, List.foldl_cons, rep_size a k, Array.size_append, Nat.succ_mul]; omega
theorem repS_len {z : Str} {n : Int} (h : 1 ≤ n) : (repS z n).length = z.length * n.toNat := by
  unfold repS
  split
  · rename_i h2
    rw [Bool.or_eq_true] at h2
    rcases h2 with h2 | h2
    · have e : n = 1 := by simpa using h2
      subst e; simp
    · have e : z.length = 0 := by simpa using h2
      rw [e]; simp
  · show ((List.replicate n.toNat z.cps).foldl (· ++ ·) #[]).size = z.cps.size * n.toNat
    rw [rep_size]; simp [Nat.mul_comm]
theorem repS_mem {z : Str} {n : Int} {P : Nat → Prop} (h : ∀ c ∈ z.cps.toList, P c) : ∀ c ∈ (repS z n).cps.toList, P c := by
  have go : ∀ (k : Nat) (acc : Array Nat), (∀ c ∈ acc.toList, P c) → ∀ c ∈ ((List.replicate k z.cps).foldl (· ++ ·) acc).toList, P c := by
    intro k
    induction k with
    | zero => intro acc ha c hc; exact ha c hc
    | succ k ih =>
      intro acc ha c hc
      rw [List.replicate_succ, List.foldl_cons] at hc
      refine ih _ (fun c hc => ?_) c hc
      rw [Array.toList_append] at hc
      rcases List.mem_append.mp hc with h1 | h1
      · exact ha c h1
      · exact h c h1
  unfold repS
  split
  · exact h
  · exact go _ _ (by simp)
def rRepS : R2 := fun x y H Q => ∃ (z : Str) (n : Int), x = .str z ∧ y = .int n ∧ (1 ≤ n ∧ n ≤ 1000 ∧ z.length ≤ 1000) ∧ Q (.str (repS z n)) H
theorem op_repS {X : Cx} : OpR X (binaryOp .Mult) rRepS := by
  intro pins s σ H x y v u Q I rx ry h
  obtain ⟨z, n, rfl, rfl, ⟨h1, h2, h3⟩, q⟩ := h
  obtain ⟨t, rfl⟩ := rx
  obtain ⟨t', rfl⟩ := ry
  have e1 : decide (n < -(2 ^ 63 : Int)) = false := decide_eq_false (by omega)
  have e2 : decide (n ≥ (2 ^ 63 : Int)) = false := decide_eq_false (by omega)
  have hm : z.length * n.toNat ≤ 1000 * 1000 := Nat.mul_le_mul h3 (by omega)
  refine PySem.P.mul_str (by rw [e1, e2]; rfl) (fun _ _ => ?_) (fun _ _ => ?_) ?_
  · have h4 : (2 ^ 63 - 1 : Int) / n ≥ 1000 := by
      refine Int.le_ediv_of_mul_le (by omega) ?_
      have : (1000 : Int) * n ≤ 1000 * 1000 := by omega
      omega
    omega
  · unfold PySem.Builtin.Str.tooLong
    exact decide_eq_false (by have : (sizeLine : Nat) ≥ 1000000 := by decide
                              omega)
  · rw [if_neg (by omega)]
    by_cases e : (n == 1 || z.length == 0) = true
    · rw [if_pos e]
      have er : repS z n = z := if_pos e
      rw [er] at q
      exact ⟨.str z, H, I, ⟨_, rfl⟩, q⟩
    · rw [if_neg e]
      have eq : repS z n = ⟨(List.replicate n.toNat z.cps).foldl (· ++ ·) #[]⟩ := if_neg e
      rw [eq] at q
      have el := repS_len (z := z) h1
      rw [eq] at el
      exact ⟨by rw [el]; exact Nat.le_trans hm (by decide), .str _, H, I.tok _, ⟨_, rfl⟩, q⟩
theorem rd_repS {z : Str} {n : Int} (h : 1 ≤ n ∧ n ≤ 1000 ∧ z.length ≤ 1000) : RD rRepS (.str z) (.int n) (.str (repS z n)) := fun G1 _ _ _ s hx hy _ q =>
  ⟨z, n, hx.str_eq, hy.int_eq, h, q _ G1 _ (.refl s) (.str _)⟩
/-- a text walked by a comprehension -/
theorem lc_str {z : Str} {g : TG} {tt : TT} {te : TE} {vs : List Nat} {σ : L2.St} {H1 : Hp} {D : Addr} {Qd : Hp → Prop} (Pv : Nat → Hp → Prop) (h0 : Pv 0 (upd H1 D (.lst [])))
    (hs : ∀ i c H, z.cps[i]? = some c → Pv i H → g (.str ⟨#[c]⟩) (wipe σ vs) H fun σ2 H2 => wipe σ2 vs = wipe σ vs ∧ tt σ2 H2 fun b H3 =>
      if b = true then te σ2 H3 fun y H4 => ∃ acc, H4 D = some (.lst acc) ∧ acc.length < sizeLine ∧ Pv (i + 1) (upd H4 D (.lst (acc ++ [y]))) else Pv (i + 1) H3) (hd : ∀ H, Pv z.cps.size H → Qd H) :
    ∃ W : Nat → Nat → Hp → Prop, (∃ m, W 0 m (upd H1 D (.lst []))) ∧ ∀ i m H, W i m H →
      ((Its z).stop i H ∧ Qd H) ∨ ((Its z).go i H ∧ ∃ Nx : Hp → Prop, (∀ H', Nx H' → ∃ m', m' < m ∧ W (i + 1) m' H') ∧ ∀ x H', (Its z).yld i H x H' → g x (wipe σ vs) H' fun σ2 H2 => wipe σ2 vs = wipe σ vs ∧ tt σ2 H2 fun b H3 =>
        if b = true then te σ2 H3 fun y H4 => ∃ acc, H4 D = some (.lst acc) ∧ acc.length < sizeLine ∧ Nx (upd H4 D (.lst (acc ++ [y]))) else Nx H3) := by
  refine ⟨fun i m H => m = z.cps.size - i ∧ i ≤ z.cps.size ∧ Pv i H, ⟨z.cps.size, by simp, Nat.zero_le _, h0⟩, ?_⟩
  rintro i m H ⟨rfl, hi, p⟩
  by_cases hlt : i < z.cps.size
  · refine Or.inr ⟨hlt, Pv (i + 1), fun H' p' => ⟨z.cps.size - (i + 1), by omega, rfl, hlt, p'⟩, fun x H' y => ?_⟩
    obtain ⟨rfl, c, hc, rfl⟩ := y
    exact hs i c _ hc p
  · have e : i = z.cps.size := by omega
    subst e
    exact Or.inl ⟨Nat.le_refl _, hd H p⟩
section
variable {K : PySem.W.Frag} {σ : L2.St} {G H : Hp} {ta te : TE} {tt : TT} {d : PyData}
theorem ev_lcS {tl : TE} {z : Str} {j : Nat} {vs : List Nat} (f : Nat → Bool) (v : Nat → PyData) (h : EvD tl σ G H (.str z)) (hz : z.length ≤ 40000) (hw : ∀ x, wipe ((wipe σ vs).set j (some x)) vs = wipe σ vs)
    (ht : ∀ (i : Nat) (c : Nat), z.cps[i]? = some c → EvT tt ((wipe σ vs).set j (some (.str ⟨#[c]⟩))) G H (f i)) (he : ∀ (i : Nat) (c : Nat), z.cps[i]? = some c → f i = true → EvD te ((wipe σ vs).set j (some (.str ⟨#[c]⟩))) G H (v i)) :
    EvM (tLc (iStr tl) (gName j) tt te vs) σ G H (given z.length f v) := fun G0 H0 a Q q => h G0 H0 a _ fun u G1 H1 g1 x => by
  have hz' : z.cps.size ≤ 40000 := hz
  have gg := a.trans g1
  refine ⟨z, x.str_eq, fun l hl => lc_str (z := z) (Cw G1 H1 f v l) ⟨G1, [], (Gr.refl g1.s).own hl, g1.s.none hl, upd_same, by exact .nil⟩ (fun i c H' hc p => ?_) (fun H' p => ?_)⟩
  · have hi : i < z.cps.size := (Array.getElem?_eq_some_iff.mp hc).1
    exact ⟨hw _, cw_turn hl p (by omega) ((ht i c hc).mono gg) (fun hf => (he i c hc hf).mono gg)⟩
  · obtain ⟨G', xs, k1, k2, k3, k4⟩ := p
    exact q l xs G' H' (g1.trans k1) (g1.free hl) k2 k3 k4
end
theorem cd_all' {K : PySem.W.Frag} {ds : List PyData} {bs : List Bool} (h : ds = bs.map .bool) : CD (rAll K) [.list ds] (.bool (bs.all id)) := by rw [h]; exact cd_all
/-! promises whose value is one of several -/
def SpR {α : Type} (args : α → List PyData) (pre : α → Prop) (R : α → PyData → Prop) : Sp := fun vs H Q _ => ∃ G x, Sb G H ∧ Dxs G vs (args x) ∧ pre x ∧ ∀ v d G' H', Gr [] G H G' H' → R x d → Dx G' v d → Q v H'
theorem ev_callR {σ : L2.St} {G H : Hp} {E : XK} {t : TA} {α : Type} {args : α → List PyData} {pre : α → Prop} {R : α → PyData → Prop} (x : α) (h : EvA t σ G H (args x)) (hp : pre x) : EvP (tCall (SpR args pre R) [] E t) σ G H (R x) := fun G1 H1 a Q q =>
  h G1 H1 a _ fun vs G2 H2 g xs => ⟨G2, x, g.s, by rw [List.append_nil]; exact xs, hp, fun v d G3 H3 g3 r z => q v d G3 H3 (g.trans g3) r z⟩

/-! ### the rules with the written part said -/
section
variable {X : Cx} {K : PySem.W.Frag}
theorem ix_listK (h : X.K = K := by rfl) : IxR X (rIxL K) := by subst h; exact ix_list
theorem ix_tupK (h : X.K = K := by rfl) : IxR X (rIxT K) := by subst h; exact ix_tup
theorem ix_seqK (h : X.K = K := by rfl) : IxR X (rIx K) := by subst h; exact ix_seq
theorem op_eqDK (hu : X.A.units + 64 < cLine) (h : X.K = K := by rfl) : OpR X (compareOp .Eq) (rEqD K) := by subst h; exact op_eqD hu
theorem op_neDK (hu : X.A.units + 64 < cLine) (h : X.K = K := by rfl) : OpR X (compareOp .NotEq) (rNeD K) := by subst h; exact op_neD hu
theorem op_inK (h : X.K = K := by rfl) : OpR X (compareOp .In) (rIn K false) := by subst h; exact op_in_seq
theorem op_ninK (h : X.K = K := by rfl) : OpR X (compareOp .NotIn) (rIn K true) := by subst h; exact op_notIn_seq
theorem sl_listK (h : X.K = K := by rfl) : SlR X (rSlL K) := by subst h; exact sl_list
theorem cr_sumK (hc : X.calm = true) (h : X.K = K := by rfl) : CallR X (.builtin "sum") (rSum K) := by subst h; exact cr_sum hc
theorem cr_allK (hc : X.calm = true) (h : X.K = K := by rfl) : CallR X (.builtin "all") (rAll K) := by subst h; exact cr_all hc
theorem call_lenK (h : X.K = K := by rfl) : CallR X (.builtin "len") (fun xs H Q => ∃ p ys, xs = [.ref p] ∧ (SqL K H p ys ∨ SqT K H p ys) ∧ Q (.int ys.length) H) := by subst h; exact call_len_seq
theorem call_listK (h : X.K = K := by rfl) : CallR X (.type "list") (fun xs H Q => ∃ p ys, xs = [.ref p] ∧ (SqL K H p ys ∨ SqT K H p ys) ∧ ∀ l, H l = none → Q (.ref l) (upd H l (.lst ys))) := by subst h; exact call_list_of
theorem call_isiKK (h : X.K = K := by rfl) : CallR X (.builtin "isinstance") (rIsi K) := by subst h; exact call_isi
theorem call_isiTK (h : X.K = K := by rfl) : CallR X (.builtin "isinstance") (rIsiT K) := by subst h; exact call_isiT
end
theorem rd_isN {d : PyData} : RD (fun x y H Q => y = .non ∧ Q (.bl (decide (x = .non))) H) d .none (.bool (isNone d)) := fun G1 _ x y s hx hy _ q => by
  have e : decide (x = V.non) = isNone d := by cases hx <;> rfl
  refine ⟨hy.non_eq, ?_⟩
  rw [e]; exact q _ G1 _ (.refl s) (.bl _)
theorem rd_notN {d : PyData} : RD (fun x y H Q => y = .non ∧ Q (.bl (!decide (x = .non))) H) d .none (.bool (!isNone d)) := fun G1 _ x y s hx hy _ q => by
  have e : decide (x = V.non) = isNone d := by cases hx <;> rfl
  refine ⟨hy.non_eq, ?_⟩
  rw [e]; exact q _ G1 _ (.refl s) (.bl _)

/-! ### enumerate, targets that are tuples -/
section
variable {K : PySem.W.Frag} {σ : L2.St} {G H : Hp} {tz tu : TS} {D : Ends}
theorem g_nn {i j : Nat} {v : V} {d1 d2 : PyData} {Q : L2.St → Hp → Prop} (x : Dx G v (.tuple [d1, d2])) (s : Sb G H) (k : ∀ v1 v2, Dx G v1 d1 → Dx G v2 d2 → Q ((σ.set i (some v1)).set j (some v2)) H) : gTup K 2 (gCons (gName i) (gCons (gName j) gNil)) v σ H Q := by
  obtain ⟨a, xs, rfl, ha, dxs⟩ := x.tup_eq
  obtain ⟨v1, v2, rfl, h1, h2⟩ := dxs2 dxs
  exact ⟨a, [v1, v2], rfl, Or.inl (Or.inl (s _ _ ha)), rfl, v1, [v2], rfl, v2, [], rfl, rfl, k v1 v2 h1 h2⟩
theorem g_n_nn {i j l : Nat} {v : V} {d1 d2 d3 : PyData} {Q : L2.St → Hp → Prop} (x : Dx G v (.tuple [d1, .tuple [d2, d3]])) (s : Sb G H) (k : ∀ v1 v2 v3, Dx G v1 d1 → Dx G v2 d2 → Dx G v3 d3 → Q (((σ.set i (some v1)).set j (some v2)).set l (some v3)) H) :
    gTup K 2 (gCons (gName i) (gCons (gTup K 2 (gCons (gName j) (gCons (gName l) gNil))) gNil)) v σ H Q := by
  obtain ⟨a, xs, rfl, ha, dxs⟩ := x.tup_eq
  obtain ⟨v1, v2, rfl, h1, h2⟩ := dxs2 dxs
  obtain ⟨b, ys, rfl, hb, dys⟩ := h2.tup_eq
  obtain ⟨w1, w2, rfl, k1, k2⟩ := dxs2 dys
  exact ⟨a, [v1, .ref b], rfl, Or.inl (Or.inl (s _ _ ha)), rfl, v1, [.ref b], rfl, .ref b, [], rfl, ⟨b, [w1, w2], rfl, Or.inl (Or.inl (s _ _ hb)), rfl, w1, [w2], rfl, w2, [], rfl, rfl, rfl, k v1 w1 w2 h1 k1 k2⟩⟩
theorem for_enum {a : Addr} {xs : List V} {g : TG} {tb : TS} {D : Ends} {σ : L2.St} {H : Hp} (Pv : Nat → L2.St → Hp → Prop) (h0 : Pv 0 σ H) (hl : ∀ i σ H, i ≤ xs.length → Pv i σ H → SqL K H a xs)
    (hs : ∀ i x σ H T, xs[i]? = some x → Pv i σ H → H T = none → g (.ref T) σ (upd H T (.tup [.int (i : Nat), x])) fun σ2 H2 => tb { D with nx := Pv (i + 1), ct := Pv (i + 1), bk := D.nx } σ2 H2) (hd : ∀ σ H, Pv xs.length σ H → D.nx σ H) :
    ∃ W : Nat → Nat → L2.St → Hp → Prop, (∃ m, W 0 m σ H) ∧ ∀ i m σ H, W i m σ H →
      ((Ite K a).stop i H ∧ D.nx σ H) ∨ ((Ite K a).go i H ∧ ∃ N : L2.St → Hp → Prop, (∀ σ' H', N σ' H' → ∃ m', m' < m ∧ W (i + 1) m' σ' H') ∧ ∀ x H', (Ite K a).yld i H x H' → g x σ H' fun σ2 H2 => tb { D with nx := N, ct := N, bk := D.nx } σ2 H2) := by
  refine ⟨fun i m σ H => m = xs.length - i ∧ i ≤ xs.length ∧ Pv i σ H, ⟨xs.length, by simp, Nat.zero_le _, h0⟩, ?_⟩
  rintro i m σ H ⟨rfl, hi, p⟩
  have q := hl i σ H hi p
  by_cases hlt : i < xs.length
  · refine Or.inr ⟨⟨xs, xs[i], q, by simp [hlt]⟩, Pv (i + 1), fun σ' H' p' => ⟨xs.length - (i + 1), by omega, rfl, hlt, p'⟩, fun x H' y => ?_⟩
    obtain ⟨T, u, rfl, hT, rfl, hu⟩ := y
    exact hs i u σ H T (hu xs q) p hT
  · have e : i = xs.length := by omega
    subst e
    exact Or.inl ⟨⟨xs, q, Nat.le_refl _⟩, hd σ H p⟩
theorem s_forE {t : TA} {g : TG} {ds : List PyData} (M : List Addr) (I : Nat → L2.St → Hp → Hp → Prop) (h : EvA t σ G H [.list ds]) (s : Sb G H) (h0 : ∀ G1 H1, Gr [] G H G1 H1 → I 0 σ G1 H1)
    (hs : ∀ G1 H1, Gr [] G H G1 H1 → ∀ (n : Nat) d v σ' G' H' G2 H2, ds[n]? = some d → Gr M G1 H1 G' H' → I n σ' G' H' → Gr [] G' H' G2 H2 → Dx G2 v (.tuple [.int (n : Int), d]) → g v σ' H2 fun σ2 H3 => tu { D with nx := Nx M G1 H1 I (n + 1), ct := Nx M G1 H1 I (n + 1), bk := D.nx } σ2 H3)
    (hd : ∀ σ' G' H', Gr M G H G' H' → I ds.length σ' G' H' → D.nx σ' H') : tFor (iEnum K t) g tu D σ H :=
  h G H (.refl s) _ fun vs G1 H1 g1 x => by
    obtain ⟨v, rfl, hv⟩ := dxs1 x
    obtain ⟨a, xs, rfl, ha, dxs⟩ := hv.lst_eq
    refine ⟨a, xs, rfl, Or.inl (Or.inl (g1.s _ _ ha)), for_enum (xs := xs) (Nx M G1 H1 I) ⟨G1, .refl g1.s, h0 G1 H1 g1⟩ (fun n σ' H' _ p => ?_) (fun n x σ' H' T hx p hT => ?_) (fun σ' H' p => ?_)⟩
    · obtain ⟨G', g', _⟩ := p
      exact Or.inl (Or.inl (g'.s _ _ (g'.g _ _ ha)))
    · obtain ⟨G', g', w⟩ := p
      obtain ⟨d, hd1, hd2⟩ := dxs.getV hx
      have hn := g'.s.none hT
      refine hs G1 H1 g1 n d (.ref T) σ' G' H' (upd G' T (.tup [.int (n : Nat), x])) _ hd1 g' w ((Gr.refl g'.s).data hT) (.tup upd_same (.cons (.int _) (.cons ?_ .nil)))
      exact (hd2.mono g'.g).mono (Sb.new hn)
    · obtain ⟨G', g', w⟩ := p
      rw [dxs.len] at w
      exact hd σ' G' H' (g1.any.trans g') w
theorem q_forE {t : TA} {g : TG} {ds : List PyData} (M : List Addr) (I : Nat → L2.St → Hp → Hp → Prop) (h : EvA t σ G H [.list ds]) (s : Sb G H) (h0 : ∀ G1 H1, Gr [] G H G1 H1 → I 0 σ G1 H1)
    (hs : ∀ G1 H1, Gr [] G H G1 H1 → ∀ (n : Nat) d v σ' G' H' G2 H2, ds[n]? = some d → Gr M G1 H1 G' H' → I n σ' G' H' → Gr [] G' H' G2 H2 → Dx G2 v (.tuple [.int (n : Int), d]) → g v σ' H2 fun σ2 H3 => tu { D with nx := Nx M G1 H1 I (n + 1), ct := Nx M G1 H1 I (n + 1), bk := tz D } σ2 H3)
    (hd : ∀ σ' G' H', Gr M G H G' H' → I ds.length σ' G' H' → tz D σ' H') : tSeq (tFor (iEnum K t) g tu) tz D σ H := s_forE (D := { D with nx := tz D }) M I h s h0 hs hd
end

/-! ### several own objects become data at once -/
open Classical in
noncomputable def addAll (S : Addr → Prop) (G H : Hp) : Hp := fun a => if S a then H a else G a
theorem addAll_in {S : Addr → Prop} {G H : Hp} {a : Addr} (h : S a) : addAll S G H a = H a := if_pos h
theorem addAll_out {S : Addr → Prop} {G H : Hp} {a : Addr} (h : ¬ S a) : addAll S G H a = G a := if_neg h
theorem Sb.addAll {S : Addr → Prop} {G H : Hp} (h : ∀ a, S a → G a = Option.none) : Sb G (addAll S G H) := fun a o e => by
  by_cases q : S a
  · rw [h a q] at e; cases e
  · rw [addAll_out q]; exact e
theorem Gr.freezeAll {M : List Addr} {G H G' H' : Hp} (x : Gr M G H G' H') (S : Addr → Prop) (hn : ∀ a, S a → G' a = none) (h0 : ∀ a, S a → H a = none) : Gr M G H (addAll S G' H') H' :=
  ⟨x.g.trans (Sb.addAll hn), fun a o e => by
    by_cases q : S a
    · rw [addAll_in q] at e; exact e
    · rw [addAll_out q] at e; exact x.s a o e, x.h, x.t, fun a u e e0 => by
    by_cases q : S a
    · rw [h0 a q] at e; cases e
    · rw [addAll_out q]; exact x.n a u e e0⟩
/-- data for a while, several objects -/
theorem Gr.thawAll {M : List Addr} {S : Addr → Prop} {G H G2 H2 : Hp} (x : Gr M (addAll S G H) H G2 H2) (hn : ∀ a, S a → G a = none) : Gr M G H G H2 :=
  ⟨Sb.refl G, ((Sb.addAll hn).trans x.g).trans x.s, x.h, x.t, fun _ _ _ e => e⟩
section
variable {K : PySem.W.Frag} {σ : L2.St} {G H : Hp}
theorem ea_star {te : TE} {tr : TA} {ds es : List PyData} (h : EvD te σ G H (.list ds)) (hr : EvA tr σ G H es) : EvA (StX.tStar K te tr) σ G H (ds ++ es) := fun G1 H1 a _ q =>
  h G1 H1 a _ fun v G2 H2 g x => by
    obtain ⟨p, xs, rfl, hp, dxs⟩ := x.lst_eq
    exact ⟨p, xs, rfl, Or.inr (Or.inl (Or.inl (g.s _ _ hp))), hr G2 H2 (a.trans g) _ fun vs G3 H3 g3 ys => q _ G3 H3 (g.trans g3) ((dxs.mono g3.g).app ys)⟩
theorem inV_str {z : Str} : ∀ zs : List Str, inV (.str z) (zs.map V.str) = decide (z ∈ zs)
  | [] => by simp [inV]
  | y :: ys => by
    have ih := inV_str (z := z) ys
    unfold inV at ih ⊢
    rw [List.map_cons, List.any_cons, ih]
    have e : eqV (V.str y) (V.str z) = decide (y = z) := by
      show (y == z) = decide (y = z)
      rfl
    rw [e]
    by_cases h : y = z
    · subst h; simp
    · simp [h, Ne.symm h]
      first
        | done
        | (intro h2; exact absurd h2.symm h)
theorem all_flat : ∀ zs : List Str, (zs.map V.str).all flatV = true
  | [] => rfl
  | y :: ys => by rw [List.map_cons, List.all_cons, all_flat ys]; rfl
theorem rd_InL {z : Str} {zs : List Str} : RD (rIn K false) (.str z) (.list (zs.map .str)) (.bool (decide (z ∈ zs))) := fun G1 H1 x y s hx hy Q q => by
  obtain ⟨a, xs, rfl, ha, dxs⟩ := hy.lst_eq
  rw [dxs.strs_eq] at ha
  rw [hx.str_eq]
  refine ⟨a, _, rfl, Or.inl (Or.inl (Or.inl (s _ _ ha))), rfl, all_flat zs, ?_⟩
  show Q (.bl (inV (.str z) (zs.map V.str))) H1
  rw [inV_str]; exact q _ G1 H1 (.refl s) (.bl _)
end

section
variable {K : PySem.W.Frag} {σ : L2.St} {B C G H : Hp} {te tb : TE} {ds es : List PyData} {D : Ends} {tz : TS} {i : Nat} {l : Addr} {xs : List V}
theorem et_truL (h : EvD te σ G H (.list ds)) : EvT (fun σ H Q => te σ H fun x H' => ∃ k, TruV K x H' k ∧ Q k H') σ G H (!ds.isEmpty) := fun G1 H1 a Q q =>
  h G1 H1 a _ fun v G2 H2 g x => by
    obtain ⟨p, xs, rfl, hp, dxs⟩ := x.lst_eq
    refine ⟨!ds.isEmpty, Or.inl ⟨xs, Or.inl (Or.inl (g.s _ _ hp)), ?_⟩, q G2 H2 g⟩
    have := dxs.len
    cases xs <;> cases ds <;> first | rfl | cases this
/-- xs.append(e), e a new list that stays own -/
theorem s_appM (o : Ow B C G H l xs) (hv : σ[i]? = some (some (.ref l))) (h : EvM te σ G H ds) (hz : xs.length < 100000)
    (k : ∀ q ys G1 H1, Gr [] G H G1 H1 → H q = none → G1 q = none → H1 q = some (.lst ys) → Dxs G1 ys ds → Ow B C G1 (upd H1 l (.lst (xs ++ [.ref q]))) l (xs ++ [.ref q]) → D.nx σ (upd H1 l (.lst (xs ++ [.ref q])))) :
    tDrop (tBM K "list" rAppend (tVar i) (tCons te tNil)) D σ H :=
  ⟨.ref l, hv, Or.inl ⟨rfl, xs, Or.inl (Or.inl o.hl)⟩, h G H (.refl o.s) _ fun q ys G1 H1 g h0 hn h1 hx =>
    ⟨l, xs, .ref q, rfl, rfl, g.h l _ (by simp) o.hl, Evl.sz_lt hz, k q ys G1 H1 g h0 hn h1 hx (o.put g _)⟩⟩
theorem s_retLM (h : EvM te σ G H ds) (s : Sb G H) (k : ∀ q ys G1 H1 l, Gr [] G H G1 H1 → H q = none → G1 q = none → H1 q = some (.lst ys) → Dxs G1 ys ds → H1 l = none → D.rt (.ref l) (upd H1 l (.lst [.ref q]))) : tRet (tLst (tCons te tNil)) D σ H :=
  h G H (.refl s) _ fun q ys G1 H1 g q0 qn hq hx => ⟨by show 1 ≤ sizeLine; decide, fun l hl => k q ys G1 H1 l g q0 qn hq hx hl⟩
/-- own list + list -/
theorem ev_catO (h : σ[i]? = some (some (.ref l))) (hl : H l = some (.lst xs)) (hx : Dxs G xs ds) (hb : EvD tb σ G H (.list es)) (hz : ds.length + es.length ≤ 100000) : EvM (tOp rCat (tVar i) tb) σ G H (ds ++ es) := fun G1 H1 a Q q =>
  ⟨.ref l, h, hb G1 H1 a _ fun v G2 H2 g x => by
    obtain ⟨p, ys, rfl, hp, dys⟩ := x.lst_eq
    have dxs := hx.mono (a.trans g).g
    exact ⟨l, p, xs, ys, rfl, rfl, (a.trans g).h l _ (by simp) hl, g.s _ _ hp, Evl.sz_of (by rw [dxs.len, dys.len]; exact hz), fun r hr => q r _ G2 _ (g.own hr) (g.free hr) (g.s.none hr) upd_same (dxs.app dys)⟩⟩
end
theorem paired_app {α β : Type} {F : α → β → Prop} : ∀ {a c : List α} {b d : List β}, Paired F a b → Paired F c d → Paired F (a ++ c) (b ++ d)
  | _, _, _, _, .nil, t => t
  | _, _, _, _, .cons h t, u => .cons h (paired_app t u)
theorem paired_mono {α β : Type} {F E : α → β → Prop} (h : ∀ a b, F a b → E a b) : ∀ {a : List α} {b : List β}, Paired F a b → Paired E a b
  | _, _, .nil => .nil
  | _, _, .cons r t => .cons (h _ _ r) (paired_mono h t)
theorem given_list {α β : Type} (L : List α) (d : α) (φ : α → Bool) (ψ : α → β) : given L.length (fun i => φ (L.getD i d)) (fun i => ψ (L.getD i d)) = (L.filter φ).map ψ := by
  have e : (List.range L.length).map (fun i => L.getD i d) = L := by
    apply List.ext_getElem
    · simp
    · intro i h1 h2
      simp only [List.getElem_map, List.getElem_range]
      rw [List.getD_eq_getElem?_getD, List.getElem?_eq_getElem h2]; rfl
  have e2 : L.filter φ = ((List.range L.length).filter (φ ∘ fun i => L.getD i d)).map (fun i => L.getD i d) := by
    conv => lhs; rw [← e]
    rw [List.filter_map]
  unfold given
  rw [e2, List.map_map]
  rfl

section
variable {K : PySem.W.Frag} {σ : L2.St} {G H : Hp} {tz tu : TS} {D : Ends} {ds : List PyData}
/-- over a list that a name holds -/
theorem q_forV {g : TG} {i : Nat} {v : V} (M : List Addr) (I : Nat → L2.St → Hp → Hp → Prop) (hv : σ[i]? = some (some v)) (x : Dx G v (.list ds)) (s : Sb G H) (h0 : I 0 σ G H)
    (hs : ∀ n d v σ' G' H', ds[n]? = some d → Dx G' v d → Gr M G H G' H' → I n σ' G' H' → g v σ' H' fun σ2 H2 => tu { D with nx := Nx M G H I (n + 1), ct := Nx M G H I (n + 1), bk := tz D } σ2 H2)
    (hd : ∀ σ' G' H', Gr M G H G' H' → I ds.length σ' G' H' → tz D σ' H') : tSeq (tFor (iList K (tVar i)) g tu) tz D σ H := by
  obtain ⟨a, xs, rfl, ha, dxs⟩ := x.lst_eq
  refine ⟨.ref a, hv, a, rfl, ⟨xs, Or.inl (Or.inl (s _ _ ha))⟩, for_list (xs := xs) (Nx M G H I) ⟨G, .refl s, h0⟩ (fun n σ' H' _ p => ?_) (fun n x σ' H' hx p => ?_) (fun σ' H' p => ?_)⟩
  · obtain ⟨G', g', _⟩ := p
    exact Or.inl (Or.inl (g'.s _ _ (g'.g _ _ ha)))
  · obtain ⟨G', g', w⟩ := p
    obtain ⟨d, hd1, hd2⟩ := dxs.getV hx
    exact hs n d x σ' G' H' hd1 (hd2.mono g'.g) g' w
  · obtain ⟨G', g', w⟩ := p
    rw [dxs.len] at w
    exact hd σ' G' H' g' w
end

section
variable {K : PySem.W.Frag} {σ : L2.St} {B C G H : Hp} {te : TE} {ds : List PyData} {D : Ends} {tz : TS} {i : Nat} {l : Addr} {xs : List V}
theorem q_appM (o : Ow B C G H l xs) (hv : σ[i]? = some (some (.ref l))) (h : EvM te σ G H ds) (hz : xs.length < 100000)
    (k : ∀ q ys G1 H1, Gr [] G H G1 H1 → H q = none → G1 q = none → H1 q = some (.lst ys) → Dxs G1 ys ds → Ow B C G1 (upd H1 l (.lst (xs ++ [.ref q]))) l (xs ++ [.ref q]) → tz D σ (upd H1 l (.lst (xs ++ [.ref q])))) :
    tSeq (tDrop (tBM K "list" rAppend (tVar i) (tCons te tNil))) tz D σ H := s_appM (D := { D with nx := tz D }) o hv h hz k
/-- xs[0].append(c), xs an own list of own lists -/
theorem q_app0 {q : Addr} {rest ys : List V} {c : V} (hv : σ[i]? = some (some (.ref l))) (hl : H l = some (.lst (.ref q :: rest))) (hq : H q = some (.lst ys)) (hz : ys.length < 100000)
    (k : tz D σ (upd H q (.lst (ys ++ [c])))) : tSeq (tDrop (tBM K "list" rAppend (tOp (rIxL K) (tVar i) (tC (.int 0))) (tCons (tC c) tNil))) tz D σ H :=
  ⟨.ref l, hv, l, _, 0, .ref q, rfl, rfl, Or.inl (Or.inl hl), atI_nat (j := 0) rfl, Or.inl ⟨rfl, _, Or.inl (Or.inl hq)⟩, q, ys, c, rfl, rfl, hq, Evl.sz_lt hz, k⟩
end
end Gd

namespace Gd
open PySem PySem.Spec PyProof.Rows L2
/-! ### sum(d.values()), list(d.values()): the view is made for the call alone and is never tracked -/
theorem preSum_take (is : List Int) : ∀ n, n ≤ is.length → preSum (fun i => is.getD i 0) n = (is.take n).sum
  | 0, _ => by simp [preSum]
  | n + 1, h => by
    show preSum (fun i => is.getD i 0) n + is.getD n 0 = _
    rw [preSum_take is n (by omega), List.take_add_one, List.sum_append, List.getD_eq_getElem?_getD, List.getElem?_eq_getElem (by omega : n < is.length)]
    simp
/-- v, a view of the dict at a, which holds kvs -/
structure Vw (X : Cx) (s : Shared) (v a : Addr) (kvs : List (Key × V)) (vs : List (Key × Value)) (ep : Nat) : Prop where
  view : s.heap.IsValuesView v a
  dat : s.heap.DictAt (mixKind X.prog X.w) a vs ep
  kv : KV kvs vs
  sz : kvs.length ≤ sizeLine
def tVals (td : TE) (R : List (Key × V) → Hp → Prop) : L2.St → Hp → Prop := fun σ H => td σ H fun x H1 => ∃ (a : Addr) (kvs : List (Key × V)), x = V.ref a ∧ Rd H1 a (.dK kvs) ∧ R kvs H1
def tSumVals (td : TE) : TE := fun σ H Q => tVals td (fun kvs H1 => ∃ is : List Int, kvs.map (·.2) = is.map V.int ∧ Q (.int is.sum) H1) σ H
def tListVals (td : TE) : TE := fun σ H Q => tVals td (fun kvs H1 => ∀ p, H1 p = none → Q (.ref p) (upd H1 p (.lst (kvs.map (·.2))))) σ H
section
variable {X : Cx} {o : Expr} {p pos apos mpos : Pos} {td : TE} {pins : List (Addr × Obj)} {σ : L2.St} {H : Hp} {s : Shared}
/-- the view as an argument -/
theorem vals_arg {R : List (Key × V) → Hp → Prop} {Q : Value → Shared → Prop} (hd : PE X o td) (hbase : attributeBase o "values" X.env (eval o X.env) = eval o X.env) (hline : (apos.endLine == mpos.line) = true)
    (I : Inv X pins σ H s) (h : tVals td R σ H) (k : ∀ s1 H1 v a kvs vs ep, Inv X pins σ H1 s1 → R kvs H1 → Vw X s1 v a kvs vs ep → Q (.ref v) s1) :
    wpAny (model X.prog X.w) X.A (eval (.Call (.Attribute o "values" apos) [] [] mpos) X.env) Q X.xe s := by
  refine wpAny_Call_method0_late hbase hline (wpAny_mono (hd.run pins s σ H _ I h) (fun u s1 hu => ?_) fun _ _ e => e)
  obtain ⟨x, H1, I1, rx, a, kvs, rfl, ha, q⟩ := hu
  cases (show u = Value.ref a from rx)
  obtain ⟨hz, hsys, vs, rel, dof⟩ := dk_rd I1.hok ha
  obtain ⟨ep, dat⟩ := dof.dictAt
  obtain ⟨ob, es, ho, ex, _⟩ := id dat
  have old : ∀ b u, s1.heap.get? b = some u → (s1.heap.push { cls := .type "dict_values", data := .fields #[.ref a] }).get? b = some u := fun b u e => Heap.get?_push_of_some _ e
  have made := k { s1 with heap := s1.heap.push { cls := .type "dict_values", data := .fields #[.ref a] } } H1 s1.heap.objs.size a kvs vs ep (I1.kept (t' := s1.toks) old) q ⟨⟨_, Heap.get?_push_size _ rfl, rfl, rfl⟩, dat.keep old, rel, hz⟩
  exact ⟨"dict", "dict.values", F.plainAttrs_dict, F.slot_dict_values, F.type_dict_values, ⟨ob, ho, ex.1⟩, fun b e => ⟨ob, by cases e; exact ho, ex.2.1⟩,
    Calls.callWith_builtin rfl (PySem.evalArgs_none (call_meetsIn F.slot_dict_values ⟨ob, ho, ex.1⟩ F.entry_dict_values (F.args_dict_values_1 _) (meets_dict_values (mixKind X.prog X.w) a hsys) ⟨⟨vs, dof⟩, made⟩))⟩
theorem Vw.int {v a : Addr} {kvs : List (Key × V)} {vs : List (Key × Value)} {ep : Nat} (x : Vw X s v a kvs vs ep) {is : List Int} (hv : kvs.map (·.2) = is.map V.int) (i : Nat) (u : Value) (h : ∃ k, vs[i]? = some (k, u)) : ∃ t, u = Value.int (is.getD i 0) t := by
  obtain ⟨k, hk⟩ := h
  obtain ⟨y, h1, h2⟩ := KV.at' x.kv hk
  have e1 : (is.map V.int)[i]? = some y := by rw [← hv, List.getElem?_map, h1]; rfl
  rw [List.getElem?_map] at e1
  cases e2 : is[i]? with
  | none => rw [e2] at e1; cases e1
  | some j =>
    rw [e2] at e1
    cases e1
    obtain ⟨t, e3⟩ := h2
    exact ⟨t, by rw [e3, List.getD_eq_getElem?_getD, e2]; rfl⟩
/-- the sum of a view -/
theorem Vw.sum {v a : Addr} {kvs : List (Key × V)} {vs : List (Key × Value)} {ep : Nat} (x : Vw X s v a kvs vs ep) (hc : X.calm = true) (I : Inv X pins σ H s) {is : List Int} (hv : kvs.map (·.2) = is.map V.int) {Q : VK} (q : Q (.int is.sum) H) :
    wpAny (model X.prog X.w) X.A (call (.builtin "sum") [.ref v]) (EP X pins σ Q) X.xe s := by
  have ha := x.dat.lt_size
  refine call_sum_walkAnyS (wpAny_pyIter_values x.view x.dat ⟨_, _, _, _, vs.length, _, _, fun i => is.getD i 0, rfl,
    (Walks.dictValues (knd := mixKind X.prog X.w) (A := X.A.in1) (I.ok.hd hc) s.heap.objs.size a (Nat.ne_of_lt ha) vs ep).toS, ⟨⟨_, Heap.get?_push_size _ rfl, rfl, rfl⟩, x.dat.push _⟩, ?_, x.int hv, ?_⟩)
  · intro b hb
    have hs : b ≤ s.heap.objs.size := by
      rcases List.mem_cons.mp hb with e | hb
      · exact Nat.le_of_eq e
      · rw [List.mem_singleton.mp hb]; exact Nat.le_of_lt ha
    simpa [Heap.size_push] using Nat.lt_succ_of_le hs
  · intro s' t' mv
    have n : vs.length = is.length := by rw [← x.kv.length, ← List.length_map (as := is) (f := V.int), ← hv, List.length_map]
    have e : preSum (fun i => is.getD i 0) vs.length = is.sum := by rw [n, preSum_take is _ (Nat.le_refl _), List.take_length]
    rw [Moved.eq_with mv, e]
    refine ⟨.int is.sum, H, I.kept (t' := s'.toks) fun b u e => mv.heap b u (fun hb => ?_) (Heap.get?_push_of_some _ e), ⟨t', rfl⟩, q⟩
    rw [List.mem_singleton.mp hb] at e
    exact absurd (Heap.lt_size e) (Nat.lt_irrefl _)
theorem pe_sumVals (hc : X.calm = true) (hg : Gl X "sum") (hm : X.mg "sum" = none) (hd : PE X o td) (hbase : attributeBase o "values" X.env (eval o X.env) = eval o X.env := by rfl) (hline : (apos.endLine == mpos.line) = true := by rfl)
    (hse : starEach [Expr.Call (.Attribute o "values" apos) [] [] mpos] X.env = [(false, eval (Expr.Call (.Attribute o "values" apos) [] [] mpos) X.env)] := by rfl) :
    PE X (.Call (.Name "sum" p) [.Call (.Attribute o "values" apos) [] [] mpos] [] pos) (tSumVals td) := ⟨fun pins s σ H Q I h => by
  refine wpAny_Call_Name_kw (ld_blt I hg hm (u := .builtin "sum") (by decide +kernel) ?_ (by decide +kernel) (by decide +kernel))
  rw [hse]
  exact PySem.callWith_builtin1 (vals_arg hd hbase hline I h fun s1 H1 v a kvs vs ep I1 ⟨is, hv, q⟩ x => x.sum hc I1 hv q)⟩
theorem vals_at : ∀ {kvs : List (Key × V)} {vs : List (Key × Value)} {us : List Value}, KV kvs vs → us.length = vs.length → (∀ (j : Nat) (v : Value), us[j]? = some v → ∃ k, vs[j]? = some (k, v)) → Vals (kvs.map (·.2)) us := by
  intro kvs vs us r
  unfold KV at r
  induction r generalizing us with
  | nil => intro hl _; cases us with
    | nil => exact .nil
    | cons _ _ => cases hl
  | cons h t ih =>
    intro hl hv
    cases us with
    | nil => cases hl
    | cons u us =>
      obtain ⟨k, e⟩ := hv 0 u rfl
      refine .cons ?_ (ih (by simpa using hl) fun j v e => ?_)
      · have e1 := Option.some.inj e
        have e2 : _ = u := congrArg Prod.snd e1
        rw [← e2]; exact h.2
      · obtain ⟨k, e⟩ := hv (j + 1) v (by simpa using e)
        exact ⟨k, by simpa using e⟩
/-- the list of a view -/
theorem Vw.list {v a : Addr} {kvs : List (Key × V)} {vs : List (Key × Value)} {ep : Nat} (x : Vw X s v a kvs vs ep) (hc : X.calm = true) (I : Inv X pins σ H s) {Q : VK} (q : ∀ p, H p = none → Q (.ref p) (upd H p (.lst (kvs.map (·.2))))) :
    wpAny (model X.prog X.w) X.A (call (.type "list") [.ref v]) (EP X pins σ Q) X.xe s :=
  PySem.W.kdl_call PySem.W.kdl_values (I.ok.hd hc) ⟨x.view, x.dat⟩ (by rw [← x.kv.length]; exact x.sz) fun h' tk acc c' hk hD hacc =>
    ⟨.ref _, upd H _ (.lst (kvs.map (·.2))), I.laid (t' := tk) hk (Nat.le_refl _)
      (show ObjOk X.prog X.w _ _ _ (.lst (kvs.map (·.2))) from ⟨by rw [List.length_map]; exact x.sz, acc.toList, c', vals_at x.kv (by rw [Array.length_toList]; exact hacc.1) fun j u e => hacc.2 j u (by rw [← Array.getElem?_toList]; exact e), by rw [Array.toArray_toList]; exact hD⟩),
      rfl, q _ (I.hok.fresh (Nat.le_refl _))⟩
theorem pe_listVals (hc : X.calm = true) (hg : Gl X "list") (hm : X.mg "list" = none) (hd : PE X o td) (hbase : attributeBase o "values" X.env (eval o X.env) = eval o X.env := by rfl) (hline : (apos.endLine == mpos.line) = true := by rfl)
    (hse : starEach [Expr.Call (.Attribute o "values" apos) [] [] mpos] X.env = [(false, eval (Expr.Call (.Attribute o "values" apos) [] [] mpos) X.env)] := by rfl) :
    PE X (.Call (.Name "list" p) [.Call (.Attribute o "values" apos) [] [] mpos] [] pos) (tListVals td) := ⟨fun pins s σ H Q I h => by
  refine wpAny_Call_Name_kw (ld_blt I hg hm (u := .type "list") (by first | rfl | decide +kernel) ?_ (by decide +kernel) (by decide +kernel))
  rw [hse]
  exact PySem.callWith_type1 (vals_arg hd hbase hline I h fun s1 H1 v a kvs vs ep I1 q x => x.list hc I1 q)⟩
end
end Gd

namespace Gd
open PySem PySem.Spec PyProof.Rows L2
/-! ### for (a, b), c in d.items(), the keys of d tuples -/
section
variable {X : Cx} {pins : List (Addr × Obj)} {σ : L2.St} {H : Hp} {st : Shared} {d : Addr} {o : Obj}
theorem lockedT {kvs : List (List Key × V)} (I : L2.Inv X pins σ H st) (h : H d = some (.frz o (.dT kvs))) : (d == sysModules) = false ∧ st.heap.get? d = some o ∧ o.ExactDict ∧
    ∃ (es : Array DictEntry) (ep : Nat), o.data = .dict es ep ∧ es.size = kvs.length ∧ ∀ (i : Nat) (k : List Key) (v : V), kvs[i]? = some (k, v) → ∃ (en : DictEntry) (q : Addr), es[i]? = some en ∧ en.key = .ref q ∧ H q = some (.tup (k.map kV)) ∧ RelV v en.val := by
  have hk := I.hok d _ h
  obtain ⟨h1, _, h2, xs, pr, o', es, ep, h3, h4, h5, h6, _⟩ := hk
  rw [h1] at h3
  obtain rfl := Option.some.inj h3
  have n1 : es.size = xs.length := size_of_entries h6
  have n2 : kvs.length = xs.length := Paired.length pr
  refine ⟨h2, h1, h4, es, ep, h5, n1.trans n2.symm, fun i k v e => ?_⟩
  obtain ⟨b, hb, _, e2, e3⟩ := paired_get pr e
  have q := entry_at h6 i
  rw [hb] at q
  exact ⟨_, b.2.1, q, rfl, e2, e3⟩
end
def Itit (d : Addr) (o : Obj) (kvs : List (List Key × V)) : It where
  go := fun i H => H d = some (.frz o (.dT kvs)) ∧ i < kvs.length
  yld := fun i H x H' => ∃ (T q : Addr) (k : List Key) (v : V), kvs[i]? = some (k, v) ∧ H q = some (.tup (k.map kV)) ∧ x = .ref T ∧ H T = none ∧ H' = upd H T (.tup [.ref q, v])
  stop := fun i H => H d = some (.frz o (.dT kvs)) ∧ kvs.length ≤ i
section
variable {P : Program} {w : World} {K : PySem.W.Frag} {d : Addr} {o : Obj} {es : Array DictEntry} {ep : Nat}
theorem turn_itemsT {kvs : List (List Key × V)} {elts : List Expr} {kk : Nat} {tpos : Pos} (it : Addr) (hod : o.data = .dict es ep) :
    Turn P w K (.Tuple elts kk tpos) (Itit d o kvs) [it] it (fun i h => ∃ ok ov, PySem.IsItemIter h it d i kvs.length ep ok ov) := by
  constructor
  case mem => simp
  case obj =>
    intro i h hst b hb
    obtain rfl : b = it := by simpa using hb
    obtain ⟨ok, ov, e⟩ := hst
    exact ⟨_, e, fun v z => nomatch z⟩
  case keep =>
    intro i h h' hst k
    obtain ⟨ok, ov, e⟩ := hst
    exact ⟨ok, ov, k it (by simp) _ e⟩
  case item =>
    intro X hP hw hK hc i pins st σ H E I hf hst hg
    subst hP hw hK
    obtain ⟨hd, hi⟩ := hg
    obtain ⟨_, hgd, hx, es', ep', hdt, hsz, ent⟩ := lockedT I hd
    obtain ⟨rfl, rfl⟩ := dict_ep hod hdt
    have hkv : kvs[i]? = some (kvs[i].1, kvs[i].2) := List.getElem?_eq_getElem hi
    obtain ⟨en, q, hen, hkey, hq, rv⟩ := ent i _ _ hkv
    obtain ⟨ok, ov, he⟩ := hst
    rw [← hsz] at he
    have hlt : it < st.heap.objs.size := Heap.lt_size he
    have his : i < es'.size := by rw [hsz]; exact hi
    have hei : es'[i] = en := (Array.getElem?_eq_some_iff.mp hen).2
    refine DT.nextI he ⟨o, hgd, hx, hod⟩ his fun h1 ho1 hT1 hz1 hk1 => ?_
    refine ⟨_, rfl, wpAny_letOwnedTupleGo_items (s := { st with heap := h1 }) ho1 fun h2 he2 sb => ?_⟩
    have hT2 := (sb.2 _ (Nat.ne_of_gt hlt)).trans hT1
    rw [hei] at hT2
    have new : ObjOk X.prog X.w (upd H st.heap.objs.size (.tup [.ref q, kvs[i].2])) h2 st.heap.objs.size (.tup [.ref q, kvs[i].2]) :=
      ⟨by show 2 ≤ sizeLine; decide, [en.key, en.val], .cons (show RelV (.ref q) en.key by rw [hkey]; rfl) (.cons rv .nil), ⟨_, hT2, rfl, _, rfl⟩⟩
    have I2 := I.turnedNew (t' := st.toks) (ch := [it]) (fun b ob hb e => (sb.2 b (by simpa using hb)).trans (hk1 b ob (by simpa using hb) e)) hf (Nat.le_refl _) new
    refine ⟨.ref st.heap.objs.size, _, I2, rfl, ⟨_, q, _, _, hkv, hq, rfl, I.hok.fresh (Nat.le_refl _), rfl⟩, ⟨es'[i].key, es'[i].val, ?_⟩, fun b hb => ?_⟩
    · rw [← hsz]; exact he2
    · obtain rfl : b = it := by simpa using hb
      rw [upd_ne (Nat.ne_of_lt hlt)]
      exact (hf _ (by simp)).1
  case done =>
    intro X hP hw hK hc i pins st σ H E I hf hst hg
    subst hP hw hK
    obtain ⟨hd, hi⟩ := hg
    obtain ⟨f0, f1, f2, f3, f4, f5⟩ := hf it (by simp)
    obtain ⟨_, hgd, hx, es', ep', hdt, hsz, ent⟩ := lockedT I hd
    obtain ⟨rfl, rfl⟩ := dict_ep hod hdt
    obtain ⟨ok, ov, he⟩ := hst
    rw [← hsz] at he
    exact DT.endI (I.ok.hd hc) he ⟨o, hgd, hx, hod⟩ (by omega) fun h1 eb => ⟨rfl, I.turned (t' := st.toks) (fun b ob hb e => eb b ob hb e) f0 f1 f3 f4 f5⟩
  case self =>
    intro A i st Q E hst h
    obtain ⟨_, _, e⟩ := hst
    exact PySem.W.kcp_self e h
end
def iItemsT (td : TE) : TI := fun σ H R => td σ H fun x H1 => ∃ (d : Addr) (o : Obj) (kvs : List (List Key × V)), x = .ref d ∧ H1 d = some (.frz o (.dT kvs)) ∧ R (Itit d o kvs) H1
section
variable {X : Cx} {e : Expr} {td : TE} {apos cpos : Pos}
theorem pi_itemsT {elts : List Expr} {kk : Nat} {tpos : Pos} (he : PE X e td) (hbase : attributeBase e "items" X.env (eval e X.env) = eval e X.env := by rfl) (hline : (apos.endLine == cpos.line) = true := by rfl) :
    PI X (.Tuple elts kk tpos) (.Call (.Attribute e "items" apos) [] [] cpos) (iItemsT td) := ⟨fun pins st σ H R I h => by
  refine wpAny_Call_method (T := "dict") (id := "dict.items") hbase rfl hline F.plainAttrs_dict F.slot_dict_items F.type_dict_items (thn (he.run pins st σ H _ I h) fun u s1 hu => ?_)
  obtain ⟨x, H1, I1, rx, d, o, kvs, ex, hd, q⟩ := hu
  subst ex
  obtain rfl : u = Value.ref d := rx
  obtain ⟨hs, hgd, hx, es, ep, hdt, hsz, ent⟩ := lockedT I1 hd
  have hr : DT.Raw s1.heap d es ep := ⟨o, hgd, hx, hdt⟩
  refine ⟨hr.typeIs, fun b eb => ⟨o, by cases eb; exact hgd, hx.2.1⟩, ?_⟩
  have I2 := I1.kept (h' := s1.heap.push { cls := .type "dict_items", data := .fields #[.ref d] }) (t' := s1.toks) fun b ob z => Heap.get?_push_of_some _ z
  have fin : wpAny (model X.prog X.w) X.A (pyIter (.ref s1.heap.objs.size)) (PIE X pins σ (.Tuple elts kk tpos) R) X.xe { s1 with heap := s1.heap.push { cls := .type "dict_items", data := .fields #[.ref d] } } := by
    refine DT.iterI (d := d) (es := es) (ep := ep) ⟨_, Heap.get?_push_size _ rfl, rfl, rfl⟩ (hr.push _) (pi_one (tk := s1.toks) I2 _ (turn_itemsT _ hdt) ⟨.none, .none, ?_⟩ q)
    rw [← hsz]
    exact Heap.get?_push_size _ rfl
  show wpAny _ _ (callWith cpos (.builtin "dict.items") [.ref d] [] []) _ X.xe s1
  exact Calls.callWith_builtin rfl (PySem.evalArgs_none (DT.callItems hs hr fin))⟩
theorem walk_itemsT {d : Addr} {o : Obj} {kvs : List (List Key × V)} : Walk (Itit d o kvs) kvs.length (fun H => H d = some (.frz o (.dT kvs)))
    (fun i H x H' => ∃ (T q : Addr) (k : List Key) (v : V), kvs[i]? = some (k, v) ∧ H q = some (.tup (k.map kV)) ∧ x = .ref T ∧ H T = none ∧ H' = upd H T (.tup [.ref q, v])) where
  goes := fun _ _ hi q => ⟨q, hi⟩
  stops := fun _ q => ⟨q, Nat.le_refl _⟩
  yields := fun _ _ _ _ _ _ y => y
end
/-! ### sorted(xs), xs a list of (text, text, number) -/
abbrev Tri := Str × Str × Int
def triK (t : Tri) : List (Int ⊕ List Nat) := [.inr t.1.cps.toList, .inr t.2.1.cps.toList, .inl t.2.2]
def lt3 (t u : Tri) : Bool := lexLt itemOrd (triK t) (triK u)
def TriAt (H : Hp) (x : V) (t : Tri) : Prop := ∃ a, x = .ref a ∧ H a = some (.tup [.str t.1, .str t.2.1, .int t.2.2])
def sh3 : Nat → Bool := fun i => decide (i < 2)
theorem raw3 {X : Cx} {pins : List (Addr × Obj)} {σ : L2.St} {H : Hp} {st : Shared} (I : L2.Inv X pins σ H st) {a : Addr} {t : Tri} (h : H a = some (.tup [.str t.1, .str t.2.1, .int t.2.2])) :
    (∃ f, TupOf st.heap sh3 (.ref a) f) ∧ G.tupKeyC st.heap sh3 (.ref a) = some (triK t) := by
  obtain ⟨_, its, r, o, ho, hc, n, hd⟩ := I.hok _ _ h
  obtain ⟨v1, r1⟩ : ∃ v, its[0]? = some v := by cases r; exact ⟨_, rfl⟩
  cases r with
  | cons k1 r =>
    cases r with
    | cons k2 r =>
      cases r with
      | cons k3 r =>
        cases r
        obtain ⟨t1, rfl⟩ := k1
        obtain ⟨t2, rfl⟩ := k2
        obtain ⟨t3, rfl⟩ := k3
        refine ⟨⟨_, a, o, _, n, rfl, ho, hc, hd, rfl, fun e => (by cases e), fun _ => ⟨_, _, rfl⟩⟩, ?_⟩
        unfold G.tupKeyC
        have e1 : G.isTupObj st.heap (.ref a) = true := by simp [G.isTupObj, ho, hc]
        rw [if_pos e1]
        simp [tupKey, ho, hd, tupItems, sh3, triK]
def r3 (K : PySem.W.Frag) : List V → Hp → VK → Prop := fun vs H Q => ∃ (a : Addr) (xs : List V), vs = [.ref a] ∧ SqL K H a xs ∧ (∀ x ∈ xs, ∃ t, TriAt H x t) ∧
  ∀ ys p, ys.Perm xs → ys.Pairwise (fun u v => ∀ t t', TriAt H u t → TriAt H v t' → lt3 t' t = false) → H p = none → Q (.ref p) (upd H p (.lst ys))
theorem tups3 {h : Heap} : ∀ {vs : List Value}, (∀ v ∈ vs, ∃ f, TupOf h sh3 v f) → ∃ fs, TupsOf h sh3 vs fs
  | [], _ => ⟨[], .nil⟩
  | v :: vs, k => by
    obtain ⟨f, hf⟩ := k v List.mem_cons_self
    obtain ⟨fs, hfs⟩ := tups3 fun u hu => k u (List.mem_cons_of_mem _ hu)
    exact ⟨f :: fs, .cons hf hfs⟩
theorem cr_sort3 {X : Cx} : CallR X (.builtin "sorted") (r3 X.K) := fun pins st σ H vs us Q I r h => by
  obtain ⟨a, xs, rfl, hs, hx, q⟩ := h
  obtain ⟨its, rv, hl, hz⟩ := I.list hs
  obtain ⟨u, rfl, ru⟩ := vals1 r
  obtain rfl : u = Value.ref a := ru
  obtain ⟨e1, e2⟩ := refs_back rv fun x m => by
    obtain ⟨t, b, e, _⟩ := hx x m
    exact ⟨b, e⟩
  have key : ∀ v ∈ its, ∃ (t : Tri) (b : Addr), v = .ref b ∧ H b = some (.tup [.str t.1, .str t.2.1, .int t.2.2]) := fun v hv => by
    obtain ⟨b, rfl⟩ := e2 v hv
    obtain ⟨t, b', e, hb⟩ := hx (V.ref b) (by rw [e1]; exact List.mem_map.mpr ⟨_, hv, rfl⟩)
    cases e
    exact ⟨t, b, rfl, hb⟩
  obtain ⟨fs, hfs⟩ := tups3 (h := st.heap) (vs := its) fun v hv => by
    obtain ⟨t, b, rfl, hb⟩ := key v hv
    exact (raw3 I hb).1
  refine G.sorted_tups (shape := sh3) (fs := fs) hl.isList hfs (fun v hv => ?_) (by rw [← rv.length]; exact hz) fun st' a1 a2 _ => ?_
  · obtain ⟨t, b, rfl, hb⟩ := key v hv
    exact ⟨_, (raw3 I hb).2⟩
  · have hp : (arrOf st').toList.Perm (its.zip its) := by rw [← pairsOf_toList]; exact Array.perm_iff_toList_perm.mp a1
    have same : ∀ z ∈ (arrOf st').toList, z.1 = z.2 ∧ z.1 ∈ its := fun z hz' => mem_zip_self (hp.mem_iff.mp hz')
    have ho : (((arrOf st').map (·.2)).toList).Perm its := by
      rw [Array.toList_map]
      have := hp.map Prod.snd
      rw [List.map_snd_zip (Nat.le_refl _)] at this
      exact this
    obtain ⟨ep, he'⟩ := PyProof.Rows.sortedAll_at st.heap its ((arrOf st').map (·.2))
    have h3 : ∀ u ∈ ((arrOf st').map (·.2)).toList, ∃ a, u = Value.ref a := fun u hu => e2 u (ho.mem_iff.mp hu)
    have hperm : (((arrOf st').map (·.2)).toList.map backV).Perm xs := by rw [e1]; exact ho.map backV
    refine ⟨.ref _, upd H (st.heap.objs.size + 1) (.lst (((arrOf st').map (·.2)).toList.map backV)), I.laid (t' := st.toks) (fun _ _ => PyProof.Rows.sortedAll_old) (Nat.le_succ _) ⟨by rw [hperm.length_eq]; exact hz, _, ep, vals_back h3, he'⟩, rfl, q _ _ hperm ?_ (I.hok.fresh (Nat.le_succ _))⟩
    rw [List.pairwise_map, Array.toList_map, List.pairwise_map, List.pairwise_iff_getElem]
    intro i j hi hj hij t t' ht ht'
    have hsz : (arrOf st').size = (pairsOf its).size := a1.size_eq
    have hi' : i < (arrOf st').size := by simpa using hi
    have hj' : j < (arrOf st').size := by simpa using hj
    have hk := a2 i j (Nat.le_of_lt hij) (by rw [← hsz]; exact hj')
    have kk : ∀ (m : Nat) (hm : m < (arrOf st').size) (y : Tri), TriAt H (backV ((arrOf st').toList[m]'(by simpa using hm)).2) y → KK (G.tupKindC st.heap sh3) (arrOf st') m = triK y := fun m hm y hy => by
      have hmem : (arrOf st').toList[m]'(by simpa using hm) ∈ (arrOf st').toList := List.getElem_mem _
      obtain ⟨s1, s2⟩ := same _ hmem
      obtain ⟨y', b, eb, hb⟩ := key _ s2
      obtain ⟨b2, ey, hb2⟩ := hy
      rw [← s1, eb] at ey
      cases ey
      rw [hb] at hb2
      have ety : y' = y := by
        obtain ⟨p1, p2, p3⟩ := y
        obtain ⟨r1, r2, r3'⟩ := y'
        simp only [Option.some.injEq, HO.tup.injEq, List.cons.injEq, V.str.injEq, V.int.injEq, and_true] at hb2
        obtain ⟨q1, q2, q3⟩ := hb2
        rw [q1, q2, q3]
      subst ety
      unfold KK
      rw [Array.getElem?_eq_getElem hm]
      show (G.tupKeyC st.heap sh3 ((arrOf st')[m]).1).getD [] = triK y'
      have e5 : ((arrOf st')[m]).1 = Value.ref b := eb
      rw [e5, (raw3 I hb).2]; rfl
    rw [kk i hi' t ht, kk j hj' t' ht'] at hk
    exact hk
theorem cr_sort3K {X : Cx} {K : PySem.W.Frag} (h : X.K = K := by rfl) : CallR X (.builtin "sorted") (r3 K) := by subst h; exact cr_sort3
end Gd

namespace Gd
open PySem L2
/-- an exception that has a dict: the dict stands in the heap -/
def Xd (o : Option Addr) (H : Hp) : Prop := ∀ d, o = some d → ∃ fs, H d = some (.xd fs)
theorem Xd.step {o : Option Addr} {G H G' H' : Hp} (x : Xd o H) (g : Gr [] G H G' H') : Xd o H' := fun d e => by
  obtain ⟨fs, h⟩ := x d e
  exact ⟨fs, g.h d _ (by intro z; cases z) h⟩
theorem Xd.sb {o : Option Addr} {H H' : Hp} (x : Xd o H) (s : Sb H H') : Xd o H' := fun d e => by
  obtain ⟨fs, h⟩ := x d e
  exact ⟨fs, s d _ h⟩
/-- a refusal may be let out from here -/
def Lets (E : XK) (c : Value) (H : Hp) : Prop := ∀ o H', Sb H H' → Xd o H' → E c o H'
theorem Lets.sb {E : XK} {c : Value} {H H' : Hp} (x : Lets E c H) (s : Sb H H') : Lets E c H' := fun o H2 s2 y => x o H2 (s.trans s2) y
/-- what the program says of a refusal's class -/
structure ExX (K : PySem.W.Frag) (mg : Str → Option Value) (n : Str) (C fI : Addr) : Prop where
  T : OexC K C
  g : mg n = some (.ref C)
  i : PySem.W.findIn K (.ref C) "__init__" = some (some (.ref fI))
  ti : PySem.W.typeIn K (.ref fI) = some (.type "function")
  w : PySem.W.findIn K (.ref C) "word" = some none
abbrev spWord (K : PySem.W.Frag) (C : Addr) : Sp := fun vs H Q _ => ∃ (a : Addr) (y z : V), vs = [.ref a, y] ∧ OexC K C ∧ PySem.W.findIn K (.ref C) "word" = some none ∧ H a = some (exo a C none) ∧
  ∀ dx z, H dx = none → dx ≠ a → Q .non (upd (upd H dx (exd dx [("word", z)])) a (exo a C (some dx)))
section
variable {X : Cx} {C fI : Addr} {fd : FuncData} {x : Str} {e : Expr} {t : TA} {p pos : Pos}
def tClo (t : TA) : TA := fun σ H Q => ∃ R, t σ H R ∧ ∀ vs H1, R vs H1 → Q vs H1
theorem pa_clo {es : List Expr} (h : PA X es t) : PA X es (tClo t) := ⟨fun pos pins s σ H Q I q => by
  obtain ⟨R, hR, hi⟩ := q
  exact thn (h.run pos pins s σ H R I hR) fun us s1 ⟨vs, H1, I1, r, q⟩ => ⟨vs, H1, I1, r, hi vs H1 q⟩⟩
theorem tMkO_word {σ : L2.St} {H : Hp} {Q : XK} (T : OexC X.K C) (hw : PySem.W.findIn X.K (.ref C) "word" = some none) (h : t σ H fun vs H1 => vs.length = 1 ∧ Lets Q (.ref C) H1) : tMkO C (spWord X.K C) [] (tClo t) σ H Q := by
  refine ⟨_, h, fun vs H1 ⟨hl, q⟩ => ?_⟩
  match vs, hl with
  | [y], _ =>
    refine ⟨by show 1 ≤ 1000; omega, fun a ha => ⟨a, y, y, rfl, T, hw, upd_same, fun dx z hd hne => ⟨rfl, dx, _, upd_same, (upd_ne hne).trans upd_same, ?_, ?_⟩⟩⟩
    · rwa [upd_ne hne] at hd
    · have hd1 : H1 dx = none := by rwa [upd_ne hne] at hd
      refine q _ _ (fun b u e => ?_) (fun d e => ?_)
      · have h1 : b ≠ dx := fun z => by rw [z, hd1] at e; cases e
        have h2 : b ≠ a := fun z => by rw [z, ha] at e; cases e
        rw [upd_ne h1, del_ne h2, upd_ne h2, upd_ne h1, upd_ne h2]
        exact e
      · cases e
        exact ⟨_, upd_same⟩
theorem pmk_wA (T : ExX X.K X.mg x C fI) (F : FnOk X.prog X.w X.K X.mg X.base CX0 1 fI fd ["self", "why"] (spWord X.K C)) (b : Binds X.K fd ["self", "why"] []) (hr : Room 2 X.A) (hg : Gl X x) (ha : PA X [e] t) (hdb : (x == ("__debug__" : Str)) = false := by decide)
    (he : starEach [e] X.env = (false, eval e X.env) :: starEach [] X.env := by rfl) (hpl : (backTo pos (starEach [] X.env)).any (·.1) = false := by rfl) :
    PMk X (.Call (.Name x p) [e] [] pos) (fun σ H Q => t σ H fun vs H1 => vs.length = 1 ∧ Lets Q (.ref C) H1) := fun pins s σ H Q I h =>
  pmk_oex T.T T.i T.ti F hr b .nil pass0 hg T.g (pa_clo ha) hdb he hpl pins s σ H Q I (tMkO_word T.T T.w h)
theorem pmk_wS {m : Str} {j : Nat} {p2 : Pos} (T : ExX X.K X.mg x C fI) (F : FnOk X.prog X.w X.K X.mg X.base CX0 1 fI fd ["self", "why"] (spWord X.K C)) (b : Binds X.K fd ["self", "why"] []) (hr : Room 2 X.A) (hg : Gl X x) (hdb : (x == ("__debug__" : Str)) = false := by decide)
    (he : starEach [.Constant (.str m) j p2] X.env = (false, eval (.Constant (.str m) j p2) X.env) :: starEach [] X.env := by rfl) (hpl : (backTo pos (starEach [] X.env)).any (·.1) = false := by rfl) :
    PMk X (.Call (.Name x p) [.Constant (.str m) j p2] [] pos) (fun _ H Q => Lets Q (.ref C) H) := fun pins s σ H Q I h =>
  pmk_wA (t := tCons (tC (.str m)) tNil) T F b hr hg (pa_cons pe_str pa_nil) hdb he hpl pins s σ H Q I ⟨rfl, h⟩
end
/-- isinstance(e, c) of a caught refusal -/
def rIsE (K : PySem.W.Frag) (D a : Addr) (dd : Option Addr) : List V → Hp → VK → Prop := fun xs H Q => ∃ (c : V) (cv : Value) (b : Bool), xs = [.ref a, c] ∧ (∀ u, RelV c u → u = cv) ∧ PySem.W.kitOne K (.ref D) cv = some b ∧ Xd dd H ∧ Q (.bl b) H
theorem call_isD {X : Cx} {a D : Addr} {dd : Option Addr} {oe : Obj} {pn : List (Addr × Obj)} (C : ExcC X.K D) (hz : Zc (.ref D) dd oe) (hf : ∃ vs, oe.data = .fields vs) : CallR (X.suite a ((a, oe) :: pn)) (.builtin "isinstance") (rIsE X.K D a dd) := by
  intro pins s σ H xs us Q I r h
  obtain ⟨c, cv, b, rfl, hcv, e, hx, q⟩ := h
  cases r with
  | cons rx rr =>
    cases rr with
    | cons rt rr =>
      cases rr
      cases rx
      have ec := hcv _ rt
      subst ec
      obtain ⟨hget, _⟩ := I.pin (a, oe) (List.mem_append.mpr (.inl List.mem_cons_self))
      obtain ⟨vs, hv⟩ := hf
      obtain ⟨oc, od, oda, osl⟩ := oe
      obtain ⟨h1, h2⟩ := hz
      dsimp only at h1 h2 hv
      subst h1 hv
      have hcl : (PySem.W.clsIn X.K D).isSome = true := by
        obtain ⟨cd, hc, _⟩ := PySem.W.any_some C.hd
        rw [hc]; rfl
      cases od with
      | none =>
        have J : PySem.W.InstAt s.heap a ⟨.ref D, none, .fields vs, osl⟩ D none := ⟨hget, rfl, rfl, trivial⟩
        exact PySem.W.kia_one (PySem.W.handS_kitx_exc C.hg C.hk C.hs C.hd C.ha C.hn C.ht C.hm) I.kIn J e (fun z => nomatch z) fun tk => ⟨.bl b, H, I.kept (t' := tk) fun _ _ z => z, rfl, q⟩
      | some d =>
        obtain ⟨fs, hd⟩ := hx d h2.symm
        obtain ⟨mA, ⟨o, es, ep, e1, e2, e3⟩, _⟩ := I.hok d _ hd
        have J : PySem.W.InstAt s.heap a ⟨.ref D, some d, .fields vs, osl⟩ D (some o) := ⟨hget, rfl, rfl, e1⟩
        exact PySem.W.kia_one (PySem.W.kitx_exc hcl C.hg C.hk C.hs C.ha C.hn C.ht C.hm) I.kIn J e (fun z => nomatch z) fun tk => ⟨.bl b, H, I.kept (t' := tk) fun _ _ z => z, rfl, q⟩
theorem ev_isE {K : PySem.W.Frag} {D a C : Addr} {dd : Option Addr} {i : Nat} {b : Bool} {σ : L2.St} {G H : Hp} (hx : Xd dd H) (hv : σ[i]? = some (some (.ref a))) (hk : PySem.W.kitOne K (.ref D) (.ref C) = some b) : EvD (tCB (rIsE K D a dd) (tCons (tVar i) (tCons (tC (.ref C)) tNil))) σ G H (.bool b) := fun G1 H1 ga Q q =>
  ⟨.ref a, hv, .ref C, .ref C, b, rfl, fun u h => h, hk, hx.step ga, q _ G1 H1 (.refl ga.s) (.bl b)⟩

/-! ### match on a tuple whose head is a word -/
section
variable {X : Cx}
def setAll : List Nat → List V → L2.St → L2.St
  | i :: is, v :: vs, σ => setAll is vs (σ.set i (some v))
  | _, _, σ => σ
inductive Caps (X : Cx) : List Pattern → List Nat → Prop
  | nil : Caps X [] []
  | cons {n : Str} {i : Nat} {p : Pos} {ps : List Pattern} {is : List Nat} (hi : X.N[i]? = some n) (hl : X.env.scope.names.lookup n = some .local) (r : Caps X ps is) : Caps X (.MatchAs none (some n) p :: ps) (i :: is)
theorem Caps.len {ps : List Pattern} {is : List Nat} (h : Caps X ps is) : ps.length = is.length := by
  induction h with
  | nil => rfl
  | cons _ _ _ ih => exact congrArg (· + 1) ih
theorem Caps.star {ps : List Pattern} {is : List Nat} (h : Caps X ps is) : ps.findIdx? (·.isStar) = none := by
  induction h with
  | nil => rfl
  | cons _ _ _ ih =>
    rw [List.findIdx?_cons, ih]
    rfl
def tCases : List (Str × List Nat × TS) → Str → List V → TS
  | [], _, _ => fun D σ H => D.nx σ H
  | (w, is, t) :: cs, z, xs => fun D σ H => if z = w ∧ xs.length = is.length then t D (setAll is xs σ) H else tCases cs z xs D σ H
theorem tc_hit {w z : Str} {is : List Nat} {t : TS} {cs : List (Str × List Nat × TS)} {xs : List V} {D : Ends} {σ : L2.St} {H : Hp} (h1 : z = w) (h2 : xs.length = is.length) (h : t D (setAll is xs σ) H) : tCases ((w, is, t) :: cs) z xs D σ H := by
  unfold tCases; rw [if_pos ⟨h1, h2⟩]; exact h
theorem tc_miss {w z : Str} {is : List Nat} {t : TS} {cs : List (Str × List Nat × TS)} {xs : List V} {D : Ends} {σ : L2.St} {H : Hp} (h1 : ¬ z = w) (h : tCases cs z xs D σ H) : tCases ((w, is, t) :: cs) z xs D σ H := by
  unfold tCases; rw [if_neg fun q => h1 q.1]; exact h
structure PM (X : Cx) (cases : List MatchCase) (cs : List (Str × List Nat × TS)) : Prop where
  run : ∀ (pins : List (Addr × Obj)) (s : Shared) (σ : L2.St) (H : Hp) (D : Ends) (first : Bool) (q : Addr) (z : Str) (xs : List V), Inv X pins σ H s → H q = some (.tup (.str z :: xs)) → tCases cs z xs D σ H →
    wpAny (model X.prog X.w) X.A (matchCases cases X.env (.ref q) first) (SP X pins D) X.xe s
theorem pm_nil : PM X [] [] := ⟨fun pins s σ H D first q z xs I hq h => wpAny_matchCases_nil ⟨σ, H, I, h⟩⟩
theorem caps_each {ps : List Pattern} {is : List Nat} (h : Caps X ps is) : ∀ {us : List Value} {s : Shared} {Q : Option (List (Str × Value)) → Shared → Prop} {M : Model} {A : Around} {E : Value → Shared → Prop}, us.length = is.length →
    (∀ bs : List (Str × Value), bs.map (·.2) = us → (∀ (j : Nat) (n : Str), (bs[j]?).map (·.1) = some n → ∃ i, is[j]? = some i ∧ X.N[i]? = some n ∧ X.env.scope.names.lookup n = some .local) → Q (some bs) s) → wpAny M A (matchEach ps X.env us) Q E s := by
  induction h with
  | nil =>
    intro us s Q M A E hl hq
    have : us = [] := List.length_eq_zero_iff.mp hl
    subst this
    exact wpAny_matchEach_nil (hq [] rfl fun j n e => by simp at e)
  | @cons n i p ps is hi hn r ih =>
    intro us s Q M A E hl hq
    match us, hl with
    | u :: us, hl =>
      refine wpAny_matchEach_cons (wpAny_matchPattern_Capture ?_)
      refine ih (by simpa using hl) fun bs e f => ?_
      refine hq ((n, u) :: bs) (by rw [List.map_cons, e]) fun j m e2 => ?_
      match j, e2 with
      | 0, e2 => cases e2; exact ⟨i, rfl, hi, hn⟩
      | j + 1, e2 => exact f j m e2
theorem caps_store {s : Shared} {pins : List (Addr × Obj)} {H : Hp} {M : Model} {A : Around} {E : Value → Shared → Prop} (hN : X.N.Nodup) : ∀ {bs : List (Str × Value)} {is : List Nat} {xs : List V} {σ : L2.St} {s : Shared} {Q : Unit → Shared → Prop}, Inv X pins σ H s → bs.length = is.length → Vals xs (bs.map (·.2)) →
    (∀ (j : Nat) (n : Str), (bs[j]?).map (·.1) = some n → ∃ i, is[j]? = some i ∧ X.N[i]? = some n ∧ X.env.scope.names.lookup n = some .local) →
    (∀ s', Inv X pins (setAll is xs σ) H s' → Q () s') → wpAny M A (assignInOrder (bs.map fun (n, _) => bindName X.env n) (bs.map (·.2))) Q E s
  | [], is, xs, σ, s, Q, I, hl, r, f, k => by
    have hi : is = [] := List.length_eq_zero_iff.mp hl.symm
    subst hi
    exact PyProof.Rows.assignInOrder_nil (k s I)
  | (n, u) :: bs, is, xs, σ, s, Q, I, hl, r, f, k => by
    match is, hl with
    | i :: is, hl =>
      cases r with
      | @cons x _ xs' _ rx rr =>
        obtain ⟨i', e1, hi, hn⟩ := f 0 n rfl
        cases e1
        refine PyProof.Rows.assignInOrder_cons (wpAny_bindName (store_ok I hN hi (.inl hn) rx (fun s2 I2 => ?_) (.inr hn)))
        exact caps_store (s := s2) hN I2 (by simpa using hl) rr (fun j m e => f (j + 1) m e) k
theorem pm_cons {w : Str} {j : Nat} {p1 p2 pos : Pos} {ps : List Pattern} {is : List Nat} {body : List Stmt} {t : TS} {cases_ : List MatchCase} {cs : List (Str × List Nat × TS)} (hc : X.calm = true) (hN : X.N.Nodup) (c : Caps X ps is) (b : PSs X body t) (r : PM X cases_ cs) :
    PM X (⟨.MatchSequence (.MatchValue (.Constant (.str w) j p1) p2 :: ps) pos, none, body⟩ :: cases_) ((w, is, t) :: cs) := ⟨fun pins s σ H D first q z xs I hq h => by
  obtain ⟨hsz, its, hv, hT⟩ := I.hok q _ hq
  have hlen : (V.str z :: xs).length = its.length := Paired.length hv
  have hsz2 : its.toArray.size ≤ sizeLine := by
    show its.length ≤ _
    rw [← hlen]; exact hsz
  have hfit : (its.toArray.size : Int) < 2 ^ 63 := by
    rw [sizeLine_eq] at hsz2
    omega
  have hst : (Pattern.MatchValue (.Constant (.str w) j p1) p2 :: ps).findIdx? (·.isStar) = none := by
    rw [List.findIdx?_cons, c.star]
    rfl
  refine wpAny_matchCases_cons ?_
  by_cases hl : xs.length = is.length
  · have hsize : its.toArray.size = (Pattern.MatchValue (.Constant (.str w) j p1) p2 :: ps).length := by
      show its.length = _
      rw [← hlen, List.length_cons, List.length_cons, c.len, hl]
    refine PyProof.Rows.matchSeq_tuple_hit hT hfit hsize ?_ hst rfl
    rw [← hsize]
    refine PyProof.Rows.unpackItems_tuple (I.ok.hd hc) hT fun h' hx' => ?_
    have I2 : Inv X pins σ H ⟨h', s.gens, s.drawn, s.toks + 1 + 1, s.os⟩ := I.kept (h' := h') (t' := s.toks + 1 + 1) fun b o e => hx' b o (Nat.ne_of_lt (Heap.lt_size e)) e
    cases hv with
    | @cons _ u0 _ us r0 rr =>
      refine wpAny_matchEach_cons (wpAny_matchPattern_Value ?_)
      refine thn (pe_str.run pins _ σ H (fun v H' => v = .str w ∧ H' = H) I2 ⟨rfl, rfl⟩) fun uw s3 ⟨v, H3, I3, rv, ev, eH⟩ => ?_
      subst ev eH
      refine thn (op_eq pins s3 σ H3 (.str z) (.str w) u0 uw (fun v H' => v = .bl (decide (V.str z = V.str w)) ∧ H' = H3) I3 r0 rv ⟨rfl, rfl, rfl⟩) fun ub s4 ⟨vb, H4, I4, rb, eb, eH⟩ => ?_
      subst eb eH
      obtain rfl : ub = Value.bool (decide (V.str z = V.str w)) := rb
      refine wpAny_truthy_bool ?_
      by_cases hz : z = w
      · have hb : decide (V.str z = V.str w) = true := decide_eq_true (by rw [hz])
        rw [hb, if_pos rfl]
        have hus : us.length = is.length := by
          have : xs.length = us.length := Paired.length rr
          omega
        refine caps_each c hus fun bs e f => ?_
        have hbl : bs.length = is.length := by
          rw [← hus, ← e, List.length_map]
        show wpAny _ _ (assignInOrder (bs.map fun (n, _) => bindName X.env n) (bs.map (·.2))) _ _ _
        refine caps_store (s := s4) hN I4 hbl (by rw [e]; exact rr) f fun s5 I5 => ?_
        unfold tCases at h
        rw [if_pos ⟨hz, hl⟩] at h
        exact b.run pins s5 _ H4 D I5 h
      · have hb : decide (V.str z = V.str w) = false := decide_eq_false fun q => hz (by cases q; rfl)
        rw [hb, if_neg Bool.false_ne_true]
        unfold tCases at h
        rw [if_neg fun q => hz q.1] at h
        exact r.run pins s4 σ H4 D false q z xs I4 hq h
  · refine PyProof.Rows.matchSeq_tuple_miss hT hfit (fun e => hl ?_) ?_ hst rfl
    · have e2 : its.length = ps.length + 1 := e
      rw [← hlen, List.length_cons, c.len] at e2
      omega
    · unfold tCases at h
      rw [if_neg fun q => hl q.2] at h
      exact r.run pins _ σ H D false q z xs (I.tok _) hq h⟩
def tMatch (te : TE) (cs : List (Str × List Nat × TS)) : TS := fun D σ H => te σ H fun v H1 => ∃ q z xs, v = .ref q ∧ H1 q = some (.tup (.str z :: xs)) ∧ tCases cs z xs D σ H1
theorem ps_match {e : Expr} {te : TE} {pos : Pos} {cases_ : List MatchCase} {cs : List (Str × List Nat × TS)} (he : PE X e te) (r : PM X cases_ cs) : PS X (.Match e cases_ pos) (tMatch te cs) := ⟨fun pins s σ H D I h => by
  refine wpAny_Match (thn (he.run pins s σ H _ I h) fun u s1 ⟨v, H1, I1, rv, q, z, xs, ev, hq, h1⟩ => ?_)
  subst ev
  obtain rfl : u = Value.ref q := rv
  exact r.run pins s1 σ H1 D true q z xs I1 hq h1⟩
end
end Gd
namespace Gd
open PySem L2
theorem cls_mro {K : PySem.W.Frag} {C N cH : Addr} {nm q : Str} {bs sub : List Value} {sn : List Str} {ab : Bool} {col : Option Bool} {dd : Option Addr} {k0 k1 k2 k3 k5 : Option Value} (h : K.lookup C = some (PySem.excClassObj nm q C N bs [.ref cH, .type "ValueError", .type "Exception", .type "BaseException", .type "object"] true sn sub ab col dd k0 k1 k2 k3 k5 "ValueError.__new__")) :
    ∃ cd, PySem.W.clsIn K C = some cd ∧ cd.mro = [.ref C, .ref cH, .type "ValueError", .type "Exception", .type "BaseException", .type "object"] := by
  unfold PySem.W.clsIn
  rw [h]
  exact ⟨_, rfl, rfl⟩
end Gd


namespace My
open PySem L2 Gd
def top (i : Nat) : Stmt := PySem.Challenge.pw_allonge_k07_purses.main.body.getD i (.Pass ⟨0, 0, 0, 0⟩)
abbrev s_check_amount : Stmt := top 7
abbrev N_check_amount : List Str := ["coins"]
theorem sc_check_amount : FnScope N_check_amount ["coins"] (defScope s_check_amount) := ⟨rfl, rfl, rfl, by decide +kernel, rfl, by decide +kernel, by decide +kernel⟩
abbrev s_Lfeed : Stmt := top 10
abbrev N_Lfeed : List Str := ["_law_script", "_law_feed_here", "_law_cell", "_law_left", "_law_turn", "_law_seed"]
theorem sc_Lfeed : FnScope N_Lfeed ["_law_script"] (defScope s_Lfeed) := ⟨rfl, rfl, rfl, by decide +kernel, rfl, by decide +kernel, by decide +kernel⟩
abbrev s_Lname : Stmt := top 11
abbrev N_Lname : List Str := ["_law_pick", "_law_k", "_law_sign", "_law_at", "_law_words", "_law_some"]
theorem sc_Lname : FnScope N_Lname ["_law_pick", "_law_k"] (defScope s_Lname) := ⟨rfl, rfl, rfl, by decide +kernel, rfl, by decide +kernel, by decide +kernel⟩
abbrev s_Lsame : Stmt := top 12
abbrev N_Lsame : List Str := ["_law_found", "_law_due_here", "_law_k"]
theorem sc_Lsame : FnScope N_Lsame ["_law_found", "_law_due_here"] (defScope s_Lsame) := ⟨rfl, rfl, rfl, by decide +kernel, rfl, by decide +kernel, by decide +kernel⟩
abbrev s_Ldo : Stmt := top 13
abbrev N_Ldo : List Str := ["_law_purses", "_law_way", "_law_one", "_law_other", "_law_coins"]
theorem sc_Ldo : FnScope N_Ldo ["_law_purses", "_law_way", "_law_one", "_law_other", "_law_coins"] (defScope s_Ldo) := ⟨rfl, rfl, rfl, by decide +kernel, rfl, by decide +kernel, by decide +kernel⟩
abbrev s_Lkinds : Stmt := top 14
abbrev N_Lkinds : List Str := ["_law_purses", "_law_way", "_law_one", "_law_other", "_law_coins", "_law_kinds_here", "e"]
theorem sc_Lkinds : FnScope N_Lkinds ["_law_purses", "_law_way", "_law_one", "_law_other", "_law_coins"] (defScope s_Lkinds) := ⟨rfl, rfl, rfl, by decide +kernel, rfl, by decide +kernel, by decide +kernel⟩
abbrev s_Ldue : Stmt := top 15
abbrev N_Ldue : List Str := ["_law_held", "_law_way", "_law_one", "_law_other", "_law_coins"]
theorem sc_Ldue : FnScope N_Ldue ["_law_held", "_law_way", "_law_one", "_law_other", "_law_coins"] (defScope s_Ldue) := ⟨rfl, rfl, rfl, by decide +kernel, rfl, by decide +kernel, by decide +kernel⟩
abbrev s_Lmoved : Stmt := top 16
abbrev N_Lmoved : List Str := ["_law_held", "_law_way", "_law_one", "_law_other", "_law_coins"]
theorem sc_Lmoved : FnScope N_Lmoved ["_law_held", "_law_way", "_law_one", "_law_other", "_law_coins"] (defScope s_Lmoved) := ⟨rfl, rfl, rfl, by decide +kernel, rfl, by decide +kernel, by decide +kernel⟩
abbrev s_Lstrange : Stmt := top 17
abbrev N_Lstrange : List Str := ["_law_purses", "_law_name_here", "_law_held", "_law_refused"]
theorem sc_Lstrange : FnScope N_Lstrange ["_law_purses", "_law_name_here", "_law_held"] (defScope s_Lstrange) := ⟨rfl, rfl, rfl, by decide +kernel, rfl, by decide +kernel, by decide +kernel⟩
abbrev s_Lright : Stmt := top 18
abbrev N_Lright : List Str := ["_law_purses", "_law_held", "_law_told", "_law_name_here"]
theorem sc_Lright : FnScope N_Lright ["_law_purses", "_law_held"] (defScope s_Lright) := ⟨rfl, rfl, rfl, by decide +kernel, rfl, by decide +kernel, by decide +kernel⟩
abbrev s_Law : Stmt := top 19
abbrev N_Law : List Str := ["_law_script", "_law_feed_here", "_law_books", "_law_models", "_law_scale", "_law_turn", "_law_at", "_law_k", "_law_way", "_law_one", "_law_other", "_law_coins", "_law_due_here", "_law_name_here"]
theorem sc_Law : FnScope N_Law ["_law_script"] (defScope s_Law) := ⟨rfl, rfl, rfl, by decide +kernel, rfl, by decide +kernel, by decide +kernel⟩
structure Ad where
  a_check_amount : Addr
  d_check_amount : FuncData
  a_Lfeed : Addr
  d_Lfeed : FuncData
  a_Lname : Addr
  d_Lname : FuncData
  a_Lsame : Addr
  d_Lsame : FuncData
  a_Ldo : Addr
  d_Ldo : FuncData
  a_Lkinds : Addr
  d_Lkinds : FuncData
  a_Ldue : Addr
  d_Ldue : FuncData
  a_Lmoved : Addr
  d_Lmoved : FuncData
  a_Lstrange : Addr
  d_Lstrange : FuncData
  a_Lright : Addr
  d_Lright : FuncData
  a_Law : Addr
  d_Law : FuncData
structure Txt (K : PySem.W.Frag) (mg : Str → Option Value) (A : Ad) : Prop where
  b : Bi mg
  m_check_amount : mg "check_amount" = some (.ref A.a_check_amount)
  F_check_amount : Fun K "check_amount" "check_amount" s_check_amount A.a_check_amount A.d_check_amount
  b_check_amount : Binds K A.d_check_amount ["coins"] []
  m_Lfeed : mg "_law_feed" = some (.ref A.a_Lfeed)
  F_Lfeed : Fun K "_law_feed" "_law_feed" s_Lfeed A.a_Lfeed A.d_Lfeed
  b_Lfeed : Binds K A.d_Lfeed ["_law_script"] []
  m_Lname : mg "_law_name" = some (.ref A.a_Lname)
  F_Lname : Fun K "_law_name" "_law_name" s_Lname A.a_Lname A.d_Lname
  b_Lname : Binds K A.d_Lname ["_law_pick", "_law_k"] []
  m_Lsame : mg "_law_same" = some (.ref A.a_Lsame)
  F_Lsame : Fun K "_law_same" "_law_same" s_Lsame A.a_Lsame A.d_Lsame
  b_Lsame : Binds K A.d_Lsame ["_law_found", "_law_due_here"] []
  m_Ldo : mg "_law_do" = some (.ref A.a_Ldo)
  F_Ldo : Fun K "_law_do" "_law_do" s_Ldo A.a_Ldo A.d_Ldo
  b_Ldo : Binds K A.d_Ldo ["_law_purses", "_law_way", "_law_one", "_law_other", "_law_coins"] []
  m_Lkinds : mg "_law_kinds" = some (.ref A.a_Lkinds)
  F_Lkinds : Fun K "_law_kinds" "_law_kinds" s_Lkinds A.a_Lkinds A.d_Lkinds
  b_Lkinds : Binds K A.d_Lkinds ["_law_purses", "_law_way", "_law_one", "_law_other", "_law_coins"] []
  m_Ldue : mg "_law_due" = some (.ref A.a_Ldue)
  F_Ldue : Fun K "_law_due" "_law_due" s_Ldue A.a_Ldue A.d_Ldue
  b_Ldue : Binds K A.d_Ldue ["_law_held", "_law_way", "_law_one", "_law_other", "_law_coins"] []
  m_Lmoved : mg "_law_moved" = some (.ref A.a_Lmoved)
  F_Lmoved : Fun K "_law_moved" "_law_moved" s_Lmoved A.a_Lmoved A.d_Lmoved
  b_Lmoved : Binds K A.d_Lmoved ["_law_held", "_law_way", "_law_one", "_law_other", "_law_coins"] []
  m_Lstrange : mg "_law_strange" = some (.ref A.a_Lstrange)
  F_Lstrange : Fun K "_law_strange" "_law_strange" s_Lstrange A.a_Lstrange A.d_Lstrange
  b_Lstrange : Binds K A.d_Lstrange ["_law_purses", "_law_name_here", "_law_held"] []
  m_Lright : mg "_law_right" = some (.ref A.a_Lright)
  F_Lright : Fun K "_law_right" "_law_right" s_Lright A.a_Lright A.d_Lright
  b_Lright : Binds K A.d_Lright ["_law_purses", "_law_held"] []
  m_Law : mg "law" = some (.ref A.a_Law)
  F_Law : Fun K "law" "law" s_Law A.a_Law A.d_Law
  b_Law : Binds K A.d_Law ["_law_script"] []

local macro_rules | `(tactic| walk_at "arith") => `(tactic| first | omega | decide | (unfold CMul; omega) | (unfold CDiv; omega) | (unfold CPow; decide) | (refine ⟨?_, ?_⟩ <;> omega) | (simp; done) | (simp; omega))
local macro_rules | `(tactic| walk_at "wide") => `(tactic| exact ⟨by decide, by decide +kernel⟩)

section
variable {P : Program} {w : World} {K : PySem.W.Frag} {mg : Str → Option Value} {base : Heap} {A : Ad}
/-! ### purses as lists of names and coins -/
abbrev Mp := List (Str × Int)
def kvM (m : Mp) : List (Key × V) := m.map fun q => (Sum.inr q.1, V.int q.2)
def get : Mp → Str → Option Int
  | [], _ => none
  | q :: r, n => if q.1 = n then some q.2 else get r n
def repl (m : Mp) (n : Str) (c : Int) : Mp := m.map fun q => if q.1 = n then (q.1, c) else q
def put (m : Mp) (n : Str) (c : Int) : Mp := if (get m n).isSome then repl m n c else m ++ [(n, c)]
theorem val_kvM (n : Str) : ∀ m : Mp, valV (kvM m) (Sum.inr n) = (get m n).map V.int
  | [] => rfl
  | q :: r => by
    show valV ((Sum.inr q.1, V.int q.2) :: kvM r) (Sum.inr n) = _
    by_cases h : q.1 = n
    · rw [valV_pos (by rw [h])]
      unfold get; rw [if_pos h]; rfl
    · rw [valV_neg (fun e => h (Sum.inr.inj e)), val_kvM n r]
      conv => rhs; unfold get
      rw [if_neg h]
theorem repl_kvM (n : Str) (c : Int) : ∀ m : Mp, ((kvM m).map fun kv => if kv.1 = Sum.inr n then (kv.1, V.int c) else kv) = kvM (repl m n c)
  | [] => rfl
  | q :: r => by
    have ih := repl_kvM n c r
    unfold kvM repl at ih ⊢
    simp only [List.map_cons]
    rw [ih]
    by_cases h : q.1 = n
    · rw [if_pos h, if_pos (by rw [h])]
    · rw [if_neg h, if_neg (fun e => h (Sum.inr.inj e))]
theorem put_kvM (m : Mp) (n : Str) (c : Int) : putK (kvM m) (Sum.inr n) (V.int c) = kvM (put m n c) := by
  unfold putK put
  rw [valV_any, val_kvM, Option.isSome_map]
  by_cases h : (get m n).isSome = true
  · rw [if_pos h, if_pos h]; exact repl_kvM n c m
  · rw [if_neg h, if_neg h]; unfold kvM; rw [List.map_append]; rfl
theorem len_kvM (m : Mp) : (kvM m).length = m.length := by unfold kvM; rw [List.length_map]
theorem len_put (m : Mp) (n : Str) (c : Int) : (put m n c).length ≤ m.length + 1 := by
  unfold put repl
  split
  · rw [List.length_map]; omega
  · rw [List.length_append]; simp
theorem get_repl (n k : Str) (c : Int) : ∀ m : Mp, get (repl m n c) k = if k = n then (get m n).map fun _ => c else get m k
  | [] => by
    show (none : Option Int) = if k = n then none else none
    split <;> rfl
  | q :: r => by
    have ih := get_repl n k c r
    unfold repl at ih ⊢
    simp only [List.map_cons]
    by_cases h : q.1 = n
    · rw [if_pos h]
      by_cases e : q.1 = k
      · have e2 : k = n := e.symm.trans h
        unfold get; rw [if_pos (by exact e), if_pos e2, if_pos h]; rfl
      · have e2 : ¬ k = n := fun z => e (h.trans z.symm)
        rw [if_neg e2] at ih ⊢
        unfold get; rw [if_neg (by exact e), if_neg e]; exact ih
    · rw [if_neg h]
      by_cases e : q.1 = k
      · have e2 : ¬ k = n := fun z => h (e.trans z)
        unfold get; rw [if_pos e, if_neg e2, if_pos e]
      · by_cases e2 : k = n
        · rw [if_pos e2] at ih ⊢
          unfold get; rw [if_neg e, if_neg h]; exact ih
        · rw [if_neg e2] at ih ⊢
          unfold get; rw [if_neg e, if_neg e]; exact ih
theorem get_snoc (n k : Str) (c : Int) : ∀ m : Mp, get m n = none → get (m ++ [(n, c)]) k = if k = n then some c else get m k
  | [], _ => by
    show get [(n, c)] k = _
    unfold get
    by_cases e : k = n
    · rw [if_pos e, if_pos e.symm]
    · rw [if_neg e, if_neg (fun z => e z.symm)]; unfold get; rfl
  | q :: r, h => by
    unfold get at h
    by_cases hq : q.1 = n
    · rw [if_pos hq] at h; cases h
    · rw [if_neg hq] at h
      have ih := get_snoc n k c r h
      rw [List.cons_append]
      by_cases e : q.1 = k
      · have e2 : ¬ k = n := fun z => hq (e.trans z)
        unfold get; rw [if_pos e, if_neg e2, if_pos e]
      · unfold get; rw [if_neg e, if_neg e]; exact ih
theorem get_put (m : Mp) (n k : Str) (c : Int) : get (put m n c) k = if k = n then some c else get m k := by
  unfold put
  by_cases h : (get m n).isSome = true
  · rw [if_pos h, get_repl]
    by_cases e : k = n
    · rw [if_pos e, if_pos e]
      cases q : get m n with
      | none => rw [q] at h; cases h
      | some x => rfl
    · rw [if_neg e, if_neg e]
  · rw [if_neg h]
    exact get_snoc n k c m (by cases q : get m n with
      | none => rfl
      | some x => rw [q] at h; exact (h rfl).elim)
inductive Kd | taken | house | bad | short
deriving DecidableEq
def addR (m : Mp) (n : Str) (c : Int) : Except Kd Mp := if (get m n).isSome then .error .taken else if c < 0 then .error .bad else .ok (put m n c)
def fillR (m : Mp) (n : Str) (c : Int) : Except Kd Mp := match get m n with
  | none => .error .house
  | some b => if c < 0 then .error .bad else .ok (put m n (b + c))
def spendR (m : Mp) (n : Str) (c : Int) : Except Kd Mp := match get m n with
  | none => .error .house
  | some b => if c < 0 then .error .bad else if b < c then .error .short else .ok (put m n (b - c))
def payR (m : Mp) (a b : Str) (c : Int) : Except Kd Mp := if (get m a).isNone then .error .house else if (get m b).isNone then .error .house else match spendR m a c with
  | .error k => .error k
  | .ok m1 => fillR m1 b c
abbrev veTl : List Value := [.type "ValueError", .type "Exception", .type "BaseException", .type "object"]
abbrev s_Minit : Stmt := inClass (top 8) 0
abbrev N_Minit : List Str := ["self"]
theorem sc_Minit : FnScope N_Minit ["self"] (defScope s_Minit) := ⟨rfl, rfl, rfl, by decide +kernel, rfl, by decide +kernel, by decide +kernel⟩
abbrev s_Maddpurse : Stmt := inClass (top 8) 1
abbrev N_Maddpurse : List Str := ["self", "name", "coins"]
theorem sc_Maddpurse : FnScope N_Maddpurse ["self", "name", "coins"] (defScope s_Maddpurse) := ⟨rfl, rfl, rfl, by decide +kernel, rfl, by decide +kernel, by decide +kernel⟩
abbrev s_Mcoins : Stmt := inClass (top 8) 2
abbrev N_Mcoins : List Str := ["self", "name"]
theorem sc_Mcoins : FnScope N_Mcoins ["self", "name"] (defScope s_Mcoins) := ⟨rfl, rfl, rfl, by decide +kernel, rfl, by decide +kernel, by decide +kernel⟩
abbrev s_Mfill : Stmt := inClass (top 8) 3
abbrev N_Mfill : List Str := ["self", "name", "coins", "before"]
theorem sc_Mfill : FnScope N_Mfill ["self", "name", "coins"] (defScope s_Mfill) := ⟨rfl, rfl, rfl, by decide +kernel, rfl, by decide +kernel, by decide +kernel⟩
abbrev s_Mspend : Stmt := inClass (top 8) 4
abbrev N_Mspend : List Str := ["self", "name", "coins", "before"]
theorem sc_Mspend : FnScope N_Mspend ["self", "name", "coins"] (defScope s_Mspend) := ⟨rfl, rfl, rfl, by decide +kernel, rfl, by decide +kernel, by decide +kernel⟩
abbrev s_Mpay : Stmt := inClass (top 8) 5
abbrev N_Mpay : List Str := ["self", "payer", "taker", "coins", "name"]
theorem sc_Mpay : FnScope N_Mpay ["self", "payer", "taker", "coins"] (defScope s_Mpay) := ⟨rfl, rfl, rfl, by decide +kernel, rfl, by decide +kernel, by decide +kernel⟩
abbrev s_Mtotal : Stmt := inClass (top 8) 6
abbrev N_Mtotal : List Str := ["self"]
theorem sc_Mtotal : FnScope N_Mtotal ["self"] (defScope s_Mtotal) := ⟨rfl, rfl, rfl, by decide +kernel, rfl, by decide +kernel, by decide +kernel⟩
abbrev s_Mallnames : Stmt := inClass (top 8) 7
abbrev N_Mallnames : List Str := ["self"]
theorem sc_Mallnames : FnScope N_Mallnames ["self"] (defScope s_Mallnames) := ⟨rfl, rfl, rfl, by decide +kernel, rfl, by decide +kernel, by decide +kernel⟩
abbrev s_XTaken : Stmt := inClass (top 2) 0
abbrev N_XTaken : List Str := ["self", "why"]
theorem sc_XTaken : FnScope N_XTaken ["self", "why"] (defScope s_XTaken) := ⟨rfl, rfl, rfl, by decide +kernel, rfl, by decide +kernel, by decide +kernel⟩
abbrev s_XBadCoins : Stmt := inClass (top 3) 0
abbrev N_XBadCoins : List Str := ["self", "why"]
theorem sc_XBadCoins : FnScope N_XBadCoins ["self", "why"] (defScope s_XBadCoins) := ⟨rfl, rfl, rfl, by decide +kernel, rfl, by decide +kernel, by decide +kernel⟩
abbrev s_XNoHouse : Stmt := inClass (top 4) 0
abbrev N_XNoHouse : List Str := ["self", "why"]
theorem sc_XNoHouse : FnScope N_XNoHouse ["self", "why"] (defScope s_XNoHouse) := ⟨rfl, rfl, rfl, by decide +kernel, rfl, by decide +kernel, by decide +kernel⟩
abbrev s_XNoCoins : Stmt := inClass (top 5) 0
abbrev N_XNoCoins : List Str := ["self", "why"]
theorem sc_XNoCoins : FnScope N_XNoCoins ["self", "why"] (defScope s_XNoCoins) := ⟨rfl, rfl, rfl, by decide +kernel, rfl, by decide +kernel, by decide +kernel⟩
structure Bd where
  C : Addr
  a_Minit : Addr
  d_Minit : FuncData
  a_Maddpurse : Addr
  d_Maddpurse : FuncData
  a_Mcoins : Addr
  d_Mcoins : FuncData
  a_Mfill : Addr
  d_Mfill : FuncData
  a_Mspend : Addr
  d_Mspend : FuncData
  a_Mpay : Addr
  d_Mpay : FuncData
  a_Mtotal : Addr
  d_Mtotal : FuncData
  a_Mallnames : Addr
  d_Mallnames : FuncData
  cH : Addr
  c_Taken : Addr
  a_XTaken : Addr
  d_XTaken : FuncData
  c_BadCoins : Addr
  a_XBadCoins : Addr
  d_XBadCoins : FuncData
  c_NoHouse : Addr
  a_XNoHouse : Addr
  d_XNoHouse : FuncData
  c_NoCoins : Addr
  a_XNoCoins : Addr
  d_XNoCoins : FuncData
structure ExT (K : PySem.W.Frag) (mg : Str → Option Value) (n : Str) (C cH fI : Addr) : Prop where
  x : ExX K mg n C fI
  e : PySem.W.exmOne K (.ref C) (.ref cH) = some true
  i : ExcC K C
structure Tx7 (K : PySem.W.Frag) (mg : Str → Option Value) (B : Bd) : Prop where
  cl : Cls K B.C
  nH : NoAttr K B.C "held"
  gC : mg "Purses" = some (.ref B.C)
  mkC : Mk K B.C B.a_Minit
  gH : mg "HallError" = some (.ref B.cH)
  F_Minit : Fun K "__init__" "Purses.__init__" s_Minit B.a_Minit B.d_Minit
  b_Minit : Binds K B.d_Minit ["self"] []
  F_Maddpurse : Fun K "add_purse" "Purses.add_purse" s_Maddpurse B.a_Maddpurse B.d_Maddpurse
  b_Maddpurse : Binds K B.d_Maddpurse ["self", "name", "coins"] []
  m_Maddpurse : Meth K B.C "add_purse" B.a_Maddpurse
  F_Mcoins : Fun K "coins" "Purses.coins" s_Mcoins B.a_Mcoins B.d_Mcoins
  b_Mcoins : Binds K B.d_Mcoins ["self", "name"] []
  m_Mcoins : Meth K B.C "coins" B.a_Mcoins
  F_Mfill : Fun K "fill" "Purses.fill" s_Mfill B.a_Mfill B.d_Mfill
  b_Mfill : Binds K B.d_Mfill ["self", "name", "coins"] []
  m_Mfill : Meth K B.C "fill" B.a_Mfill
  F_Mspend : Fun K "spend" "Purses.spend" s_Mspend B.a_Mspend B.d_Mspend
  b_Mspend : Binds K B.d_Mspend ["self", "name", "coins"] []
  m_Mspend : Meth K B.C "spend" B.a_Mspend
  F_Mpay : Fun K "pay" "Purses.pay" s_Mpay B.a_Mpay B.d_Mpay
  b_Mpay : Binds K B.d_Mpay ["self", "payer", "taker", "coins"] []
  m_Mpay : Meth K B.C "pay" B.a_Mpay
  F_Mtotal : Fun K "total" "Purses.total" s_Mtotal B.a_Mtotal B.d_Mtotal
  b_Mtotal : Binds K B.d_Mtotal ["self"] []
  m_Mtotal : Meth K B.C "total" B.a_Mtotal
  F_Mallnames : Fun K "all_names" "Purses.all_names" s_Mallnames B.a_Mallnames B.d_Mallnames
  b_Mallnames : Binds K B.d_Mallnames ["self"] []
  m_Mallnames : Meth K B.C "all_names" B.a_Mallnames
  x_Taken : ExT K mg "Taken" B.c_Taken B.cH B.a_XTaken
  F_XTaken : Fun K "__init__" "Taken.__init__" s_XTaken B.a_XTaken B.d_XTaken
  b_XTaken : Binds K B.d_XTaken ["self", "why"] []
  x_BadCoins : ExT K mg "BadCoins" B.c_BadCoins B.cH B.a_XBadCoins
  F_XBadCoins : Fun K "__init__" "BadCoins.__init__" s_XBadCoins B.a_XBadCoins B.d_XBadCoins
  b_XBadCoins : Binds K B.d_XBadCoins ["self", "why"] []
  x_NoHouse : ExT K mg "NoHouse" B.c_NoHouse B.cH B.a_XNoHouse
  F_XNoHouse : Fun K "__init__" "NoHouse.__init__" s_XNoHouse B.a_XNoHouse B.d_XNoHouse
  b_XNoHouse : Binds K B.d_XNoHouse ["self", "why"] []
  x_NoCoins : ExT K mg "NoCoins" B.c_NoCoins B.cH B.a_XNoCoins
  F_XNoCoins : Fun K "__init__" "NoCoins.__init__" s_XNoCoins B.a_XNoCoins B.d_XNoCoins
  b_XNoCoins : Binds K B.d_XNoCoins ["self", "why"] []
  nn : PySem.W.exmOne K (.ref B.c_NoHouse) (.ref B.c_NoHouse) = some true
  k_Taken_Taken : PySem.W.kitOne K (.ref B.c_Taken) (.ref B.c_Taken) = some true
  k_Taken_BadCoins : PySem.W.kitOne K (.ref B.c_Taken) (.ref B.c_BadCoins) = some false
  k_Taken_NoHouse : PySem.W.kitOne K (.ref B.c_Taken) (.ref B.c_NoHouse) = some false
  k_Taken_NoCoins : PySem.W.kitOne K (.ref B.c_Taken) (.ref B.c_NoCoins) = some false
  k_BadCoins_Taken : PySem.W.kitOne K (.ref B.c_BadCoins) (.ref B.c_Taken) = some false
  k_BadCoins_BadCoins : PySem.W.kitOne K (.ref B.c_BadCoins) (.ref B.c_BadCoins) = some true
  k_BadCoins_NoHouse : PySem.W.kitOne K (.ref B.c_BadCoins) (.ref B.c_NoHouse) = some false
  k_BadCoins_NoCoins : PySem.W.kitOne K (.ref B.c_BadCoins) (.ref B.c_NoCoins) = some false
  k_NoHouse_Taken : PySem.W.kitOne K (.ref B.c_NoHouse) (.ref B.c_Taken) = some false
  k_NoHouse_BadCoins : PySem.W.kitOne K (.ref B.c_NoHouse) (.ref B.c_BadCoins) = some false
  k_NoHouse_NoHouse : PySem.W.kitOne K (.ref B.c_NoHouse) (.ref B.c_NoHouse) = some true
  k_NoHouse_NoCoins : PySem.W.kitOne K (.ref B.c_NoHouse) (.ref B.c_NoCoins) = some false
  k_NoCoins_Taken : PySem.W.kitOne K (.ref B.c_NoCoins) (.ref B.c_Taken) = some false
  k_NoCoins_BadCoins : PySem.W.kitOne K (.ref B.c_NoCoins) (.ref B.c_BadCoins) = some false
  k_NoCoins_NoHouse : PySem.W.kitOne K (.ref B.c_NoCoins) (.ref B.c_NoHouse) = some false
  k_NoCoins_NoCoins : PySem.W.kitOne K (.ref B.c_NoCoins) (.ref B.c_NoCoins) = some true
theorem okx_Taken {P : Program} {w : World} {K : PySem.W.Frag} {mg : Str → Option Value} {base : Heap} {B : Bd} (U : Tx7 K mg B) : FnOk P w K mg base CX0 1 B.a_XTaken B.d_XTaken ["self", "why"] (spWord K B.c_Taken) := by
  refine U.F_XTaken.ok sc_XTaken (fun vs H Q E h => by obtain ⟨_, _, _, rfl, _⟩ := h; rfl) (fun cdv A' outer s H vs Q E hr h => ?_)
  obtain ⟨a, y, z, rfl, T, hw, ha, kQ⟩ := h
  exact ⟨_, pss_one (ps_ost (pv 0) pe_str), _, rfl, a, B.c_Taken, rfl, T, hw, Or.inl ⟨ha, fun dx hd hne => kQ dx _ hd hne⟩⟩
theorem okx_BadCoins {P : Program} {w : World} {K : PySem.W.Frag} {mg : Str → Option Value} {base : Heap} {B : Bd} (U : Tx7 K mg B) : FnOk P w K mg base CX0 1 B.a_XBadCoins B.d_XBadCoins ["self", "why"] (spWord K B.c_BadCoins) := by
  refine U.F_XBadCoins.ok sc_XBadCoins (fun vs H Q E h => by obtain ⟨_, _, _, rfl, _⟩ := h; rfl) (fun cdv A' outer s H vs Q E hr h => ?_)
  obtain ⟨a, y, z, rfl, T, hw, ha, kQ⟩ := h
  exact ⟨_, pss_one (ps_ost (pv 0) pe_str), _, rfl, a, B.c_BadCoins, rfl, T, hw, Or.inl ⟨ha, fun dx hd hne => kQ dx _ hd hne⟩⟩
theorem okx_NoHouse {P : Program} {w : World} {K : PySem.W.Frag} {mg : Str → Option Value} {base : Heap} {B : Bd} (U : Tx7 K mg B) : FnOk P w K mg base CX0 1 B.a_XNoHouse B.d_XNoHouse ["self", "why"] (spWord K B.c_NoHouse) := by
  refine U.F_XNoHouse.ok sc_XNoHouse (fun vs H Q E h => by obtain ⟨_, _, _, rfl, _⟩ := h; rfl) (fun cdv A' outer s H vs Q E hr h => ?_)
  obtain ⟨a, y, z, rfl, T, hw, ha, kQ⟩ := h
  exact ⟨_, pss_one (ps_ost (pv 0) pe_str), _, rfl, a, B.c_NoHouse, rfl, T, hw, Or.inl ⟨ha, fun dx hd hne => kQ dx _ hd hne⟩⟩
theorem okx_NoCoins {P : Program} {w : World} {K : PySem.W.Frag} {mg : Str → Option Value} {base : Heap} {B : Bd} (U : Tx7 K mg B) : FnOk P w K mg base CX0 1 B.a_XNoCoins B.d_XNoCoins ["self", "why"] (spWord K B.c_NoCoins) := by
  refine U.F_XNoCoins.ok sc_XNoCoins (fun vs H Q E h => by obtain ⟨_, _, _, rfl, _⟩ := h; rfl) (fun cdv A' outer s H vs Q E hr h => ?_)
  obtain ⟨a, y, z, rfl, T, hw, ha, kQ⟩ := h
  exact ⟨_, pss_one (ps_ost (pv 0) pe_str), _, rfl, a, B.c_NoCoins, rfl, T, hw, Or.inl ⟨ha, fun dx hd hne => kQ dx _ hd hne⟩⟩
/-- a deed of a purses object at p with its dict at d -/
def PuAt (C : Addr) (H : Hp) (p d : Addr) (m : Mp) : Prop := (∃ dx, H p = some (.ins C dx [("held", .ref d)])) ∧ H d = some (.dK (kvM m)) ∧ m.length < 1000 ∧ p ≠ d
def Bd.cls (B : Bd) : Kd → Addr
  | .taken => B.c_Taken
  | .house => B.c_NoHouse
  | .bad => B.c_BadCoins
  | .short => B.c_NoCoins
def Deed (B : Bd) (C : Addr) (p d : Addr) (m : Mp) (r : Except Kd Mp) (H : Hp) (Q : VK) (E : XK) : Prop := PuAt C H p d m ∧
  (∀ k, r = .error k → ∀ H', Sb H H' → Lets E (.ref (B.cls k)) H') ∧ (∀ m', r = .ok m' → ∀ H', Sb H H' → Q .non (upd H' d (.dK (kvM m'))))
theorem Deed.err {B : Bd} {C p d : Addr} {m : Mp} {r : Except Kd Mp} {H : Hp} {Q : VK} {E : XK} (x : Deed B C p d m r H Q E) {k : Kd} (h : r = .error k) : Lets E (.ref (B.cls k)) H := x.2.1 k h H (Sb.refl H)
theorem PuAt.sb {C : Addr} {H H' : Hp} {p d : Addr} {m : Mp} (x : PuAt C H p d m) (s : Sb H H') : PuAt C H' p d m := by
  obtain ⟨⟨dx, h1⟩, h2, h3⟩ := x
  exact ⟨⟨dx, s _ _ h1⟩, s _ _ h2, h3⟩
theorem get_some {m : Mp} {n : Str} {c : Int} (h : get m n = some c) {H : Hp} {d : Addr} (hd : H d = some (.dK (kvM m))) : DGet H d (.str n) (some (.int c)) := by
  have := DGet.k (k := Sum.inr n) hd
  rw [val_kvM, h] at this
  exact this
theorem get_any {m : Mp} {H : Hp} {d : Addr} (hd : H d = some (.dK (kvM m))) (n : Str) : DGet H d (.str n) ((get m n).map .int) := by
  have := DGet.k (k := Sum.inr n) hd
  rw [val_kvM] at this
  exact this
theorem put_any {m : Mp} {H : Hp} {d : Addr} (hd : H d = some (.dK (kvM m))) (hl : m.length < 1000) (n : Str) (c : Int) : DPut H d (.str n) (.int c) (upd H d (.dK (kvM (put m n c)))) := by
  have := DPut.k (k := Sum.inr n) (v := .int c) hd (by rw [len_kvM]; exact Nat.lt_of_lt_of_le hl (by rw [sizeLine_eq]; omega))
  rw [put_kvM] at this
  exact this
theorem upd_upd {H : Hp} {d : Addr} {a b : HO} : upd (upd H d a) d b = upd H d b := by
  funext x
  by_cases h : x = d
  · subst h; rw [upd_same, upd_same]
  · rw [upd_ne h, upd_ne h, upd_ne h]
theorem upd_keep {H : Hp} {d : Addr} {o : HO} (h : H d = some o) : upd H d o = H := by
  funext x
  by_cases e : x = d
  · subst e; rw [upd_same, h]
  · rw [upd_ne e]
theorem lk1 {k : Str} {v : V} {r : List (Str × V)} : List.lookup k ((k, v) :: r) = some v := by
  have e : (k == k) = true := beq_self_eq_true k
  simp only [List.lookup, e]
theorem lk2 {k g : Str} {v : V} {r : List (Str × V)} (h : (k == g) = false) : List.lookup k ((g, v) :: r) = List.lookup k r := by
  simp only [List.lookup, h]

/-! ### the purses' own defs -/
theorem ifT {c : Bool} {X Y : Prop} (hc : c = true) (h : X) : if c = true then X else Y := by rw [if_pos hc]; exact h
theorem ifF {c : Bool} {X Y : Prop} (hc : c = false) (h : Y) : if c = true then X else Y := by rw [hc, if_neg Bool.false_ne_true]; exact h
theorem hu1 {k : Nat} {A : Around} (hr : Room k A) : A.units + 1 < cLine := Nat.lt_of_le_of_lt (by omega) hr.units
theorem nxI {D : Ends} {σ : L2.St} {H : Hp} (h : D.nx σ H) : tNext D σ H := h
theorem retI {D : Ends} {σ : L2.St} {H : Hp} {te : TE} (h : te σ H D.rt) : tRet te D σ H := h
theorem seqI {D : Ends} {σ : L2.St} {H : Hp} {t u : TS} (h : t { D with nx := u D } σ H) : tSeq t u D σ H := h
theorem one_le : (1 : Nat) ≤ sizeLine := by rw [sizeLine_eq]; omega
theorem rd_held {K : PySem.W.Frag} {mg : Str → Option Value} {B : Bd} (U : Tx7 K mg B) {σ : L2.St} {H : Hp} {p d : Addr} {m : Mp} {i : Nat} {Q : VK} (hv : σ[i]? = some (some (.ref p))) (h : PuAt B.C H p d m) (k : Q (.ref d) H) : tFld K (tVar i) "held" σ H Q := by
  obtain ⟨⟨dx, h1⟩, _⟩ := h
  exact ⟨_, hv, p, B.C, dx, _, _, rfl, h1, U.cl, U.nH, lk1, k⟩
theorem no_meth {d : V} {k : Str} (h : (k == ("held" : Str)) = false) : List.lookup k [(("held" : Str), d)] = none := (lk2 h).trans rfl
abbrev spAmt (B : Bd) : Sp := fun vs H Q E => ∃ c : Int, vs = [.int c] ∧ (c < 0 → Lets E (.ref B.c_BadCoins) H) ∧ (¬ c < 0 → Q .non H)
abbrev spInit (B : Bd) : Sp := fun vs H Q _ => ∃ p dx : Addr, vs = [.ref p] ∧ H p = some (.ins B.C dx []) ∧ ∀ d, H d = none → Q .non (upd (upd H d (.dK [])) p (.ins B.C dx [("held", .ref d)]))
abbrev spCoins (B : Bd) : Sp := fun vs H Q E => ∃ (p d : Addr) (m : Mp) (n : Str), vs = [.ref p, .str n] ∧ PuAt B.C H p d m ∧ (get m n = none → Lets E (.ref B.c_NoHouse) H) ∧ (∀ c, get m n = some c → Q (.int c) H)
abbrev spAdd (B : Bd) : Sp := fun vs H Q E => ∃ (p d : Addr) (m : Mp) (n : Str) (c : Int), vs = [.ref p, .str n, .int c] ∧ Deed B B.C p d m (addR m n c) H Q E
abbrev spFill (B : Bd) : Sp := fun vs H Q E => ∃ (p d : Addr) (m : Mp) (n : Str) (c : Int), vs = [.ref p, .str n, .int c] ∧ Deed B B.C p d m (fillR m n c) H Q E
abbrev spSpend (B : Bd) : Sp := fun vs H Q E => ∃ (p d : Addr) (m : Mp) (n : Str) (c : Int), vs = [.ref p, .str n, .int c] ∧ Deed B B.C p d m (spendR m n c) H Q E
abbrev spPay (B : Bd) : Sp := fun vs H Q E => ∃ (p d : Addr) (m : Mp) (a b : Str) (c : Int), vs = [.ref p, .str a, .str b, .int c] ∧ Deed B B.C p d m (payR m a b c) H Q E
def tot (m : Mp) : Int := (m.map (·.2)).sum
def nms (m : Mp) : List Str := m.map (·.1)
abbrev spTotal (B : Bd) : Sp := fun vs H Q _ => ∃ (p d : Addr) (m : Mp), vs = [.ref p] ∧ PuAt B.C H p d m ∧ Q (.int (tot m)) H
abbrev spNames (B : Bd) : Sp := fun vs H Q _ => ∃ (p d : Addr) (m : Mp), vs = [.ref p] ∧ PuAt B.C H p d m ∧ m.length < 64 ∧ ∀ ys l, ys.Perm (nms m) → PyProof.Rows.sortedS ys = true → H l = none → Q (.ref l) (upd H l (.lst (ys.map V.str)))
theorem ok_amt {B : Bd} (T : Txt K mg A) (U : Tx7 K mg B) : FnOk P w K mg base (L2.CX P w) 3 A.a_check_amount A.d_check_amount ["coins"] (spAmt B) := by
  refine T.F_check_amount.okX sc_check_amount (fun vs H Q E h => ?_) (fun cdv A' outer s H vs Q E hr h => ?_)
  · obtain ⟨c, rfl, _⟩ := h; rfl
  · obtain ⟨c, rfl, kE, kQ⟩ := h
    refine ⟨_, pss_one (ps_if (pt_cmpR op_lt (pv 0) pe_int (nomark _)) (pss_one (ps_raise rfl (takes_of rfl rfl rfl rfl) (pmk_wS U.x_BadCoins.x (okx_BadCoins U) U.b_XBadCoins (hr.mono (by omega)) (by exact rfl)))) pss_nil), ?_⟩
    refine ⟨_, rfl, _, _, rfl, rfl, _, rfl, ?_⟩
    by_cases hc : c < 0
    · exact ifT (decide_eq_true hc) (kE hc)
    · exact ifF (decide_eq_false hc) (kQ hc)
theorem ok_init {B : Bd} (T : Txt K mg A) (U : Tx7 K mg B) : FnOk P w K mg base CX0 1 B.a_Minit B.d_Minit ["self"] (spInit B) := by
  refine U.F_Minit.ok sc_Minit (fun vs H Q E h => ?_) (fun cdv A' outer s H vs Q E hr h => ?_)
  · obtain ⟨p, dx, rfl, _⟩ := h; rfl
  · obtain ⟨p, dx, rfl, hp, k⟩ := h
    refine ⟨_, pss_one (ps_fld (pv 0) pe_dnewK rfl), ?_⟩
    intro d hd
    have hne : p ≠ d := ne_of_none hp hd
    refine ⟨_, rfl, p, B.C, dx, [], rfl, (upd_ne hne).trans hp, U.cl, U.nH, (by show 0 < 1000; decide), ?_⟩
    exact k d hd
theorem ok_coins {B : Bd} (T : Txt K mg A) (U : Tx7 K mg B) : FnOk P w K mg base (L2.CX P w) 3 B.a_Mcoins B.d_Mcoins ["self", "name"] (spCoins B) := by
  refine U.F_Mcoins.okX sc_Mcoins (fun vs H Q E h => ?_) (fun cdv A' outer s H vs Q E hr h => ?_)
  · obtain ⟨_, _, _, _, rfl, _⟩ := h; rfl
  · obtain ⟨p, d, m, n, rfl, hp, kE, kQ⟩ := h
    refine ⟨_, pss_cons (ps_if (pt_cmp (pc_dnotin (hu1 hr) (pv 1) (pe_fld (pv 0) rfl)) rfl) (pss_one (ps_raise rfl (takes_of rfl rfl rfl rfl) (pmk_wA U.x_NoHouse.x (okx_NoHouse U) U.b_XNoHouse (hr.mono (by omega)) (by exact rfl) (pa_cons (pv 1) pa_nil)))) pss_nil)
      (pss_one (ps_ret (pe_dget (hu1 hr) (pe_fld (pv 0) rfl) (pv 1) (fun _ _ => rfl)))), ?_⟩
    refine ⟨_, rfl, rd_held U rfl hp ⟨d, _, rfl, get_any hp.2.1 n, _, rfl, ?_⟩⟩
    cases hc : get m n with
    | none => exact ifT rfl ⟨_, rfl, rfl, kE hc⟩
    | some c =>
      refine ifF rfl (nxI ?_)
      dsimp only
      exact retI <| rd_held U rfl hp ⟨_, rfl, d, _, rfl, get_some hc hp.2.1, kQ c hc⟩
theorem ok_add {B : Bd} (T : Txt K mg A) (U : Tx7 K mg B) : FnOk P w K mg base (L2.CX P w) 4 B.a_Maddpurse B.d_Maddpurse ["self", "name", "coins"] (spAdd B) := by
  have G_amt := ok_amt (P := P) (w := w) (base := base) T U
  refine U.F_Maddpurse.okX sc_Maddpurse (fun vs H Q E h => ?_) (fun cdv A' outer s H vs Q E hr h => ?_)
  · obtain ⟨_, _, _, _, _, rfl, _⟩ := h; rfl
  · obtain ⟨p, d, m, n, c, rfl, x⟩ := h
    have hp := x.1
    refine ⟨_, pss_cons (ps_if (pt_cmp (pc_din (hu1 hr) (pv 1) (pe_fld (pv 0) rfl)) rfl) (pss_one (ps_raise rfl (takes_of rfl rfl rfl rfl) (pmk_wA U.x_Taken.x (okx_Taken U) U.b_XTaken (hr.mono (by omega)) (by exact rfl) (pa_cons (pv 1) pa_nil)))) pss_nil)
      (pss_cons (ps_expr (pe_call G_amt (hr.mono (by omega)) (by rfl) T.m_check_amount T.F_check_amount.kp T.b_check_amount .nil (passes_call (takes_of rfl rfl rfl rfl) fun _ _ _ _ z => z) (pa_cons (pv 2) pa_nil)))
      (pss_one (ps_dput (hu1 hr) (pe_fld (pv 0) rfl) (pv 1) (pv 2) rfl))), ?_⟩
    refine ⟨_, rfl, rd_held U rfl hp ⟨d, _, rfl, get_any hp.2.1 n, _, rfl, ?_⟩⟩
    by_cases hg : (get m n).isSome = true
    · exact ifT (by rw [Option.isSome_map]; exact hg) ⟨_, rfl, rfl, x.err (k := .taken) (by unfold addR; rw [if_pos hg])⟩
    · refine ifF (by rw [Option.isSome_map]; exact Bool.eq_false_iff.mpr hg) ?_
      show tSeq _ _ _ _ _
      refine ⟨_, rfl, c, rfl, fun hc => x.err (k := .bad) (by unfold addR; rw [if_neg hg, if_pos hc]), fun hc => ?_⟩
      exact ⟨_, rfl, rd_held U rfl hp ⟨_, rfl, d, _, rfl, put_any hp.2.1 hp.2.2.1 n c, x.2.2 _ (by unfold addR; rw [if_neg hg, if_neg hc]) H (Sb.refl H)⟩⟩
theorem sumI {td : TE} {σ : L2.St} {H : Hp} {Q : VK} (h : td σ H fun x H1 => ∃ (a : Addr) (kvs : List (Key × V)), x = V.ref a ∧ Rd H1 a (.dK kvs) ∧ ∃ is : List Int, kvs.map (·.2) = is.map V.int ∧ Q (.int is.sum) H1) : tSumVals td σ H Q := h
theorem ok_total {B : Bd} (T : Txt K mg A) (U : Tx7 K mg B) : FnOk P w K mg base CX0 1 B.a_Mtotal B.d_Mtotal ["self"] (spTotal B) := by
  refine U.F_Mtotal.ok sc_Mtotal (fun vs H Q E h => ?_) (fun cdv A' outer s H vs Q E hr h => ?_)
  · obtain ⟨_, _, _, rfl, _⟩ := h; rfl
  · obtain ⟨p, d, m, rfl, hp, k⟩ := h
    refine ⟨_, pss_one (ps_ret (pe_sumVals rfl (by rfl) T.b.sum (pe_fld (pv 0) rfl))), ?_⟩
    exact retI (sumI (rd_held U rfl hp ⟨d, _, rfl, Or.inl hp.2.1, (m.map fun q : Str × Int => q.2), by unfold kvM; rw [List.map_map, List.map_map]; rfl, k⟩))
theorem ok_names {B : Bd} (T : Txt K mg A) (U : Tx7 K mg B) : FnOk P w K mg base CX0 1 B.a_Mallnames B.d_Mallnames ["self"] (spNames B) := by
  refine U.F_Mallnames.ok sc_Mallnames (fun vs H Q E h => ?_) (fun cdv A' outer s H vs Q E hr h => ?_)
  · obtain ⟨_, _, _, rfl, _⟩ := h; rfl
  · obtain ⟨p, d, m, rfl, hp, hl, k⟩ := h
    refine ⟨_, pss_one (ps_ret (pe_callB (call_sortedD rfl) (by rfl) T.b.sorted (by decide +kernel) (pa_cons (pe_fld (pv 0) rfl) pa_nil))), ?_⟩
    exact retI (rd_held U rfl hp ⟨d, _, nms m, rfl, Or.inl hp.2.1, by unfold kvM nms; rw [List.map_map, List.map_map]; rfl, by unfold nms; rw [List.length_map]; exact hl, k⟩)
theorem fill_none {m : Mp} {n : Str} {c : Int} (h : get m n = none) : fillR m n c = .error .house := by unfold fillR; rw [h]
theorem fill_bad {m : Mp} {n : Str} {b c : Int} (h : get m n = some b) (hc : c < 0) : fillR m n c = .error .bad := by unfold fillR; rw [h]; exact if_pos hc
theorem fill_ok {m : Mp} {n : Str} {b c : Int} (h : get m n = some b) (hc : ¬ c < 0) : fillR m n c = .ok (put m n (b + c)) := by unfold fillR; rw [h]; exact if_neg hc
theorem spend_none {m : Mp} {n : Str} {c : Int} (h : get m n = none) : spendR m n c = .error .house := by unfold spendR; rw [h]
theorem spend_bad {m : Mp} {n : Str} {b c : Int} (h : get m n = some b) (hc : c < 0) : spendR m n c = .error .bad := by unfold spendR; rw [h]; exact if_pos hc
theorem spend_short {m : Mp} {n : Str} {b c : Int} (h : get m n = some b) (hc : ¬ c < 0) (hs : b < c) : spendR m n c = .error .short := by unfold spendR; rw [h]; exact (if_neg hc).trans (if_pos hs)
theorem spend_ok {m : Mp} {n : Str} {b c : Int} (h : get m n = some b) (hc : ¬ c < 0) (hs : ¬ b < c) : spendR m n c = .ok (put m n (b - c)) := by unfold spendR; rw [h]; exact (if_neg hc).trans (if_neg hs)
theorem ok_fill {B : Bd} (T : Txt K mg A) (U : Tx7 K mg B) : FnOk P w K mg base (L2.CX P w) 4 B.a_Mfill B.d_Mfill ["self", "name", "coins"] (spFill B) := by
  have G_amt := ok_amt (P := P) (w := w) (base := base) T U
  have G_coins := ok_coins (P := P) (w := w) (base := base) T U
  refine U.F_Mfill.okX sc_Mfill (fun vs H Q E h => ?_) (fun cdv A' outer s H vs Q E hr h => ?_)
  · obtain ⟨_, _, _, _, _, rfl, _⟩ := h; rfl
  · obtain ⟨p, d, m, n, c, rfl, x⟩ := h
    have hp := x.1
    obtain ⟨dx, hi⟩ := hp.1
    refine ⟨_, pss_cons (ps_set (i := 3) sc_Mfill.nd rfl (Or.inl rfl) (pe_meth (pv 0) U.cl U.m_Mcoins G_coins (hr.mono (by omega)) U.b_Mcoins .nil (passes_call (takes_of rfl rfl rfl rfl) fun _ _ _ _ z => z) (by exact (pa_cons (pv 1) pa_nil))))
      (pss_cons (ps_expr (pe_call G_amt (hr.mono (by omega)) (by rfl) T.m_check_amount T.F_check_amount.kp T.b_check_amount .nil (passes_call (takes_of rfl rfl rfl rfl) fun _ _ _ _ z => z) (pa_cons (pv 2) pa_nil)))
      (pss_one (ps_dput (hu1 hr) (pe_fld (pv 0) rfl) (pv 1) (pe_op op_add (pv 3) (pv 2)) rfl))), ?_⟩
    refine ⟨_, rfl, p, dx, _, rfl, hi, no_meth (by decide +kernel), _, rfl, p, d, m, n, rfl, hp, fun hn => x.err (fill_none hn), fun b hb => ?_⟩
    refine ⟨_, rfl, c, rfl, fun hc => x.err (fill_bad hb hc), fun hc => ?_⟩
    exact ⟨_, rfl, _, rfl, _, _, rfl, rfl, rd_held U rfl hp ⟨_, rfl, d, _, rfl, put_any hp.2.1 hp.2.2.1 n (b + c), x.2.2 _ (fill_ok hb hc) H (Sb.refl H)⟩⟩
theorem ok_spend {B : Bd} (T : Txt K mg A) (U : Tx7 K mg B) : FnOk P w K mg base (L2.CX P w) 4 B.a_Mspend B.d_Mspend ["self", "name", "coins"] (spSpend B) := by
  have G_amt := ok_amt (P := P) (w := w) (base := base) T U
  have G_coins := ok_coins (P := P) (w := w) (base := base) T U
  refine U.F_Mspend.okX sc_Mspend (fun vs H Q E h => ?_) (fun cdv A' outer s H vs Q E hr h => ?_)
  · obtain ⟨_, _, _, _, _, rfl, _⟩ := h; rfl
  · obtain ⟨p, d, m, n, c, rfl, x⟩ := h
    have hp := x.1
    obtain ⟨dx, hi⟩ := hp.1
    refine ⟨_, pss_cons (ps_set (i := 3) sc_Mspend.nd rfl (Or.inl rfl) (pe_meth (pv 0) U.cl U.m_Mcoins G_coins (hr.mono (by omega)) U.b_Mcoins .nil (passes_call (takes_of rfl rfl rfl rfl) fun _ _ _ _ z => z) (by exact (pa_cons (pv 1) pa_nil))))
      (pss_cons (ps_expr (pe_call G_amt (hr.mono (by omega)) (by rfl) T.m_check_amount T.F_check_amount.kp T.b_check_amount .nil (passes_call (takes_of rfl rfl rfl rfl) fun _ _ _ _ z => z) (pa_cons (pv 2) pa_nil)))
      (pss_cons (ps_if (pt_cmpR op_lt (pv 3) (pv 2) (nomark _)) (pss_one (ps_raise rfl (takes_of rfl rfl rfl rfl) (pmk_wA U.x_NoCoins.x (okx_NoCoins U) U.b_XNoCoins (hr.mono (by omega)) (by exact rfl) (pa_cons (pv 1) pa_nil)))) pss_nil)
      (pss_one (ps_dput (hu1 hr) (pe_fld (pv 0) rfl) (pv 1) (pe_op op_sub (pv 3) (pv 2)) rfl)))), ?_⟩
    refine ⟨_, rfl, p, dx, _, rfl, hi, no_meth (by decide +kernel), _, rfl, p, d, m, n, rfl, hp, fun hn => x.err (spend_none hn), fun b hb => ?_⟩
    refine ⟨_, rfl, c, rfl, fun hc => x.err (spend_bad hb hc), fun hc => ?_⟩
    refine ⟨_, rfl, _, rfl, _, _, rfl, rfl, _, rfl, ?_⟩
    by_cases hs : b < c
    · exact ifT (decide_eq_true hs) ⟨_, rfl, rfl, x.err (k := .short) (spend_short hb hc hs)⟩
    · refine ifF (decide_eq_false hs) (nxI ?_)
      exact ⟨_, rfl, _, rfl, _, _, rfl, rfl, rd_held U rfl hp ⟨_, rfl, d, _, rfl, put_any hp.2.1 hp.2.2.1 n (b - c), x.2.2 _ (spend_ok hb hc hs) H (Sb.refl H)⟩⟩
theorem sb_of {G H G' H' : Hp} (g : Gr [] G H G' H') : Sb H H' := fun a o e => g.h a o (by simp) e
theorem emp_sb {H : Hp} : Sb (fun _ => none) H := fun _ _ e => by cases e
theorem pay_n1 {m : Mp} {a b : Str} {c : Int} (h : get m a = none) : payR m a b c = .error .house := by unfold payR; rw [h]; rfl
theorem pay_n2 {m : Mp} {a b : Str} {c : Int} (h : get m b = none) : payR m a b c = .error .house := by
  unfold payR
  rw [h]
  split <;> rfl
theorem pay_go {m : Mp} {a b : Str} {c : Int} (h1 : (get m a).isSome = true) (h2 : (get m b).isSome = true) : payR m a b c = match spendR m a c with
  | .error k => .error k
  | .ok m1 => fillR m1 b c := by
  unfold payR
  have e1 : (get m a).isNone = false := by cases q : get m a with
    | none => rw [q] at h1; cases h1
    | some x => rfl
  have e2 : (get m b).isNone = false := by cases q : get m b with
    | none => rw [q] at h2; cases h2
    | some x => rfl
  rw [e1, e2]
  rfl
theorem len_spend {m m1 : Mp} {a : Str} {c : Int} (h : spendR m a c = .ok m1) : m1.length = m.length := by
  unfold spendR at h
  split at h
  · cases h
  · rename_i b hb
    split at h
    · cases h
    · split at h
      · cases h
      · cases h
        unfold put
        rw [hb]
        show (repl m a _).length = _
        unfold repl
        rw [List.length_map]
theorem ok_pay {B : Bd} (T : Txt K mg A) (U : Tx7 K mg B) : FnOk P w K mg base (L2.CX P w) 5 B.a_Mpay B.d_Mpay ["self", "payer", "taker", "coins"] (spPay B) := by
  have G_fill := ok_fill (P := P) (w := w) (base := base) T U
  have G_spend := ok_spend (P := P) (w := w) (base := base) T U
  refine U.F_Mpay.okX sc_Mpay (fun vs H Q E h => ?_) (fun cdv A' outer s H vs Q E hr h => ?_)
  · obtain ⟨_, _, _, _, _, _, rfl, _⟩ := h; rfl
  · obtain ⟨p, d, m, a, b, c, rfl, x⟩ := h
    have hp := x.1
    refine ⟨_, pss_cons (ps_for (passes_of rfl) rfl (pi_tup (pe_tup (pa_cons (pv 1) (pa_cons (pv 2) pa_nil)))) (pg_name (i := 4) sc_Mpay.nd rfl (Or.inl rfl))
        (pss_one (ps_if (pt_cmp (pc_dnotin (hu1 hr) (pv 4) (pe_fld (pv 0) rfl)) rfl) (pss_one (ps_raise rfl (takes_of rfl rfl rfl rfl) (pmk_wA U.x_NoHouse.x (okx_NoHouse U) U.b_XNoHouse (hr.mono (by omega)) (by exact rfl) (pa_cons (pv 4) pa_nil)))) pss_nil)))
      (pss_cons (ps_expr (pe_meth (pv 0) U.cl U.m_Mspend G_spend (hr.mono (by omega)) U.b_Mspend .nil (passes_call (takes_of rfl rfl rfl rfl) fun _ _ _ _ z => z) (by exact (pa_cons (pv 1) (pa_cons (pv 3) pa_nil)))))
      (pss_one (ps_expr (pe_meth (pv 0) U.cl U.m_Mfill G_fill (hr.mono (by omega)) U.b_Mfill .nil (passes_call (takes_of rfl rfl rfl rfl) fun _ _ _ _ z => z) (by exact (pa_cons (pv 2) (pa_cons (pv 3) pa_nil))))))), ?_⟩
    refine q_forT (G := fun _ => none) (ds := [.str a, .str b]) [] (fun n σ' G' H' => (∃ v, σ' = [some (.ref p), some (.str a), some (.str b), some (.int c), v]) ∧ (0 < n → (get m a).isSome = true) ∧ (1 < n → (get m b).isSome = true))
      (ev_tup (ea_cons (ev_var rfl (.str a)) (ea_cons (ev_var rfl (.str b)) ea_nil)) (by show 2 ≤ 100000; decide)) emp_sb (fun G1 H1 g1 => ⟨⟨none, rfl⟩, fun h => absurd h (by omega), fun h => absurd h (by omega)⟩) (fun G1 H1 g1 n e v σ' G' H' he hv gg I => ?_) (fun σ' G' H' gg I => ?_)
    · obtain ⟨⟨w0, rfl⟩, i1, i2⟩ := I
      have hs : Sb H H' := (sb_of g1).trans (sb_of gg)
      have hp' := hp.sb hs
      obtain ⟨z, rfl, hz⟩ : ∃ z : Str, v = .str z ∧ e = .str z := by
        match n, he with
        | 0, he => cases he; exact ⟨a, hv.str_eq, rfl⟩
        | 1, he => cases he; exact ⟨b, hv.str_eq, rfl⟩
        | n + 2, he => cases he
      refine ⟨_, rfl, rd_held U rfl hp' ⟨d, _, rfl, get_any hp'.2.1 z, _, rfl, ?_⟩⟩
      by_cases hg : (get m z).isSome = true
      · refine ifF (by rw [Option.isSome_map, hg]; rfl) (nxI ?_)
        refine ⟨G', gg, ⟨_, rfl⟩, fun h => ?_, fun h => ?_⟩
        · match n, he with
          | 0, he => cases he; cases hz; exact hg
          | 1, he => exact i1 (by omega)
          | n + 2, he => cases he
        · match n, he with
          | 0, he => omega
          | 1, he => cases he; cases hz; exact hg
          | n + 2, he => cases he
      · have hn : get m z = none := by cases q : get m z with
          | none => rfl
          | some y => rw [q] at hg; exact (hg rfl).elim
        refine ifT (by rw [Option.isSome_map, hn]; rfl) ⟨_, rfl, rfl, x.2.1 .house ?_ H' hs⟩
        match n, he with
        | 0, he => cases he; cases hz; exact pay_n1 hn
        | 1, he => cases he; cases hz; exact pay_n2 hn
        | n + 2, he => cases he
    · obtain ⟨⟨w0, rfl⟩, i1, i2⟩ := I
      have hs : Sb H H' := sb_of gg
      have hp' := hp.sb hs
      have e0 := pay_go (c := c) (i1 (by show 0 < 2; decide)) (i2 (by show 1 < 2; decide))
      obtain ⟨dx, hi⟩ := hp'.1
      refine ⟨_, rfl, p, dx, _, rfl, hi, no_meth (by decide +kernel), _, rfl, _, rfl, p, d, m, a, c, rfl, hp', fun k e H2 s2 => x.2.1 k (by rw [e0, e]) H2 (hs.trans s2), fun m1 e H2 s2 => ?_⟩
      have hi2 : (upd H2 d (.dK (kvM m1))) p = some (.ins B.C dx [("held", .ref d)]) := (upd_ne hp.2.2.2).trans (s2 _ _ hi)
      have hl1 := len_spend e
      refine ⟨_, rfl, p, dx, _, rfl, hi2, no_meth (by decide +kernel), _, rfl, _, rfl, p, d, m1, b, c, rfl, ⟨⟨dx, hi2⟩, upd_same, by rw [hl1]; exact hp.2.2.1, hp.2.2.2⟩, fun k e2 H3 s3 => ?_, fun m2 e2 H3 s3 => ?_⟩
      · exfalso
        have hc : ¬ c < 0 := fun hc => by
          unfold spendR at e
          split at e
          · cases e
          · rw [if_pos hc] at e; cases e
        have hb1 : (get m1 b).isSome = true := by
          unfold spendR at e
          split at e
          · cases e
          · rw [if_neg hc] at e
            split at e
            · cases e
            · cases e
              rw [get_put]
              split
              · rfl
              · exact i2 (by show 1 < 2; decide)
        cases q : get m1 b with
        | none => rw [q] at hb1; cases hb1
        | some y => rw [fill_ok q hc] at e2; cases e2
      · have sH : Sb H (upd H3 d (.dK (kvM m))) := fun z o hz => by
          by_cases hd : z = d
          · subst hd; rw [hp.2.1] at hz; cases hz; exact upd_same
          · rw [upd_ne hd]; exact s3 _ _ ((upd_ne hd).trans (s2 _ _ (hs _ _ hz)))
        have r := x.2.2 m2 (by rw [e0, e]; exact e2) _ sH
        rw [upd_upd] at r
        exact r

/-! ### dicts among the data -/
theorem rd_gr {G H G' H' : Hp} {e : Addr} {u : HO} (g : Gr [] G H G' H') (h : Rd H e u) : Rd H' e u := by
  rcases h with h | ⟨o, h⟩
  · exact Or.inl (g.h e _ (by simp) h)
  · exact Or.inr ⟨o, g.h e _ (by simp) h⟩
theorem rdget {m : Mp} {H : Hp} {d : Addr} (hd : Rd H d (.dK (kvM m))) (n : Str) : DGet H d (.str n) ((get m n).map .int) :=
  Or.inl ⟨kvM m, Sum.inr n, hd, rfl, (val_kvM n m).symm⟩
section
variable {σ : L2.St} {G H : Hp} {te : TE} {n : Str} {i : Nat} {e : Addr} {m : Mp}
theorem ev_din (h : EvD te σ G H (.str n)) (hv : σ[i]? = some (some (.ref e))) (he : Rd H e (.dK (kvM m))) : EvD (tDIn te (tVar i)) σ G H (.bool (get m n).isSome) := fun G1 H1 a Q q =>
  h G1 H1 a _ fun v G2 H2 g x => ⟨_, hv, e, (get m n).map V.int, rfl, by rw [x.str_eq]; exact rdget (rd_gr (a.trans g) he) n, by rw [Option.isSome_map]; exact q _ G2 H2 g (.bl _)⟩
theorem ev_dnotin (h : EvD te σ G H (.str n)) (hv : σ[i]? = some (some (.ref e))) (he : Rd H e (.dK (kvM m))) : EvD (tDNotIn te (tVar i)) σ G H (.bool (!(get m n).isSome)) := fun G1 H1 a Q q =>
  h G1 H1 a _ fun v G2 H2 g x => ⟨_, hv, e, (get m n).map V.int, rfl, by rw [x.str_eq]; exact rdget (rd_gr (a.trans g) he) n, by rw [Option.isSome_map]; exact q _ G2 H2 g (.bl _)⟩
theorem ev_dget {c : Int} (hv : σ[i]? = some (some (.ref e))) (he : Rd H e (.dK (kvM m))) (h : EvD te σ G H (.str n)) (hc : get m n = some c) : EvD (tDGet (tVar i) te) σ G H (.int c) := fun G1 H1 a Q q =>
  ⟨_, hv, h G1 H1 a _ fun v G2 H2 g x => ⟨e, .int c, rfl, by
    have := rdget (rd_gr (a.trans g) he) n
    rw [hc] at this
    rw [x.str_eq]; exact this, q _ G2 H2 g (.int c)⟩⟩
end
/-- d[k] = v, d a dict of its own -/
theorem s_dput {σ : L2.St} {G H : Hp} {ty tv : TE} {n : Str} {c : Int} {i : Nat} {e : Addr} {m : Mp} {D : Ends} (hv : σ[i]? = some (some (.ref e))) (he : H e = some (.dK (kvM m))) (hl : m.length < 1000) (s : Sb G H) (h : EvD tv σ G H (.int c)) (hk : ∀ G1 H1, Gr [] G H G1 H1 → EvD ty σ G1 H1 (.str n))
    (k : ∀ G1 H1, Gr [] G H G1 H1 → D.nx σ (upd H1 e (.dK (kvM (put m n c))))) : sDPut (tVar i) ty tv D σ H :=
  h G H (.refl s) _ fun v G1 H1 g1 x => ⟨_, hv, hk G1 H1 g1 G1 H1 (.refl g1.s) _ fun u G2 H2 g2 y => ⟨e, _, rfl, by
    rw [x.int_eq, y.str_eq]
    exact put_any ((g1.trans g2).h e _ (by simp) he) hl n c, k G2 H2 (g1.trans g2)⟩⟩
theorem Deed.sb {B : Bd} {C p d : Addr} {m : Mp} {r : Except Kd Mp} {H H1 : Hp} {Q : VK} {E : XK} (x : Deed B C p d m r H Q E) (s : Sb H H1) : Deed B C p d m r H1 Q E :=
  ⟨x.1.sb s, fun k e H' s' => x.2.1 k e H' (s.trans s'), fun m' e H' s' => x.2.2 m' e H' (s.trans s')⟩
def doR (m : Mp) (way : Int) (a b : Str) (c : Int) : Except Kd Mp := if way = 0 then addR m a c else if way = 1 then fillR m a c else if way = 2 then spendR m a c else payR m a b c
abbrev spDo (B : Bd) : Sp := fun vs H Q E => ∃ (p d : Addr) (m : Mp) (way : Int) (a b : Str) (c : Int), vs = [.ref p, .int way, .str a, .str b, .int c] ∧ Deed B B.C p d m (doR m way a b c) H Q E
theorem ok_Ldo {B : Bd} (T : Txt K mg A) (U : Tx7 K mg B) : FnOk P w K mg base (L2.CX P w) 6 A.a_Ldo A.d_Ldo ["_law_purses", "_law_way", "_law_one", "_law_other", "_law_coins"] (spDo B) := by
  have G_add := ok_add (P := P) (w := w) (base := base) T U
  have G_fill := ok_fill (P := P) (w := w) (base := base) T U
  have G_spend := ok_spend (P := P) (w := w) (base := base) T U
  have G_pay := ok_pay (P := P) (w := w) (base := base) T U
  refine T.F_Ldo.okX sc_Ldo (fun vs H Q E h => ?_) (fun cdv A' outer s H vs Q E hr h => ?_)
  · obtain ⟨_, _, _, _, _, _, _, rfl, _⟩ := h; rfl
  · obtain ⟨p, d, m, way, a, b, c, rfl, x⟩ := h
    refine ⟨_, pss_cons (ps_if (pt_cmpR op_eq (pv 1) pe_int (nomark _)) (pss_one (ps_ret (pe_meth (pv 0) U.cl U.m_Maddpurse G_add (hr.mono (by omega)) U.b_Maddpurse .nil (passes_call (takes_of rfl rfl rfl rfl) fun _ _ _ _ z => z) (by exact (pa_cons (pv 2) (pa_cons (pv 4) pa_nil)))))) pss_nil)
      (pss_cons (ps_if (pt_cmpR op_eq (pv 1) pe_int (nomark _)) (pss_one (ps_ret (pe_meth (pv 0) U.cl U.m_Mfill G_fill (hr.mono (by omega)) U.b_Mfill .nil (passes_call (takes_of rfl rfl rfl rfl) fun _ _ _ _ z => z) (by exact (pa_cons (pv 2) (pa_cons (pv 4) pa_nil)))))) pss_nil)
      (pss_cons (ps_if (pt_cmpR op_eq (pv 1) pe_int (nomark _)) (pss_one (ps_ret (pe_meth (pv 0) U.cl U.m_Mspend G_spend (hr.mono (by omega)) U.b_Mspend .nil (passes_call (takes_of rfl rfl rfl rfl) fun _ _ _ _ z => z) (by exact (pa_cons (pv 2) (pa_cons (pv 4) pa_nil)))))) pss_nil)
      (pss_one (ps_ret (pe_meth (pv 0) U.cl U.m_Mpay G_pay (hr.mono (by omega)) U.b_Mpay .nil (passes_call (takes_of rfl rfl rfl rfl) fun _ _ _ _ z => z) (by exact (pa_cons (pv 2) (pa_cons (pv 3) (pa_cons (pv 4) pa_nil))))))))), ?_⟩
    have i0 : ∀ G, Dx G (.int way) (.int way) := fun _ => .int _
    refine q_when (G := fun _ => none) (b := decide (way = 0)) (et_test (ev_op (ev_var rfl (i0 _)) ev_int rd_eqI)) emp_sb (fun hb G1 H1 g1 => ?_) (fun hb G1 H1 g1 => ?_)
    · have hb := of_decide_eq_true hb
      have x := x.sb (sb_of g1)
      have e : doR m way a b c = addR m a c := by unfold doR; rw [if_pos hb]
      rw [e] at x
      obtain ⟨dx, hi⟩ := x.1.1
      exact retI ⟨_, rfl, p, dx, _, rfl, hi, no_meth (by decide +kernel), _, rfl, _, rfl, p, d, m, a, c, rfl, x⟩
    have h0 := of_decide_eq_false hb
    refine q_when (b := decide (way = 1)) (et_test (ev_op (ev_var rfl (i0 _)) ev_int rd_eqI)) g1.s (fun hb G2 H2 g2 => ?_) (fun hb G2 H2 g2 => ?_)
    · have hb := of_decide_eq_true hb
      have x := x.sb ((sb_of g1).trans (sb_of g2))
      have e : doR m way a b c = fillR m a c := by unfold doR; rw [if_neg h0, if_pos hb]
      rw [e] at x
      obtain ⟨dx, hi⟩ := x.1.1
      exact retI ⟨_, rfl, p, dx, _, rfl, hi, no_meth (by decide +kernel), _, rfl, _, rfl, p, d, m, a, c, rfl, x⟩
    have h1 := of_decide_eq_false hb
    refine q_when (b := decide (way = 2)) (et_test (ev_op (ev_var rfl (i0 _)) ev_int rd_eqI)) g2.s (fun hb G3 H3 g3 => ?_) (fun hb G3 H3 g3 => ?_)
    · have hb := of_decide_eq_true hb
      have x := x.sb (((sb_of g1).trans (sb_of g2)).trans (sb_of g3))
      have e : doR m way a b c = spendR m a c := by unfold doR; rw [if_neg h0, if_neg h1, if_pos hb]
      rw [e] at x
      obtain ⟨dx, hi⟩ := x.1.1
      exact retI ⟨_, rfl, p, dx, _, rfl, hi, no_meth (by decide +kernel), _, rfl, _, rfl, p, d, m, a, c, rfl, x⟩
    have h2 := of_decide_eq_false hb
    have x := x.sb (((sb_of g1).trans (sb_of g2)).trans (sb_of g3))
    have e : doR m way a b c = payR m a b c := by unfold doR; rw [if_neg h0, if_neg h1, if_neg h2]
    rw [e] at x
    obtain ⟨dx, hi⟩ := x.1.1
    exact retI ⟨_, rfl, p, dx, _, rfl, hi, no_meth (by decide +kernel), _, rfl, _, rfl, _, rfl, p, d, m, a, b, c, rfl, x⟩

def dueS (m : Mp) (way : Int) (a b : Str) (c : Int) : Str :=
  if (decide (way = 0) && (get m a).isSome) = true then "taken" else
  if ((decide (0 < way) && !(get m a).isSome) || (decide (way = 3) && !(get m b).isSome)) = true then "house" else
  if c < 0 then "bad" else if (decide (1 < way) && decide ((get m a).getD 0 < c)) = true then "short" else ""
abbrev spDue : Sp := fun vs H Q _ => ∃ (e : Addr) (m : Mp) (way : Int) (a b : Str) (c : Int), vs = [.ref e, .int way, .str a, .str b, .int c] ∧ H e = some (.dK (kvM m)) ∧ (way = 0 ∨ way = 1 ∨ way = 2 ∨ way = 3) ∧ ∀ H', Sb H H' → Q (.str (dueS m way a b c)) H'
local macro_rules | `(tactic| walk_at "dict") => `(tactic| assumption)
theorem ok_Ldue (T : Txt K mg A) : FnOk P w K mg base CX0 1 A.a_Ldue A.d_Ldue ["_law_held", "_law_way", "_law_one", "_law_other", "_law_coins"] spDue := by
  refine T.F_Ldue.ok sc_Ldue (fun vs H Q E h => ?_) (fun cdv A' outer s H vs Q E hr h => ?_)
  · obtain ⟨_, _, _, _, _, _, rfl, _⟩ := h; rfl
  · obtain ⟨e, m, way, a, b, c, rfl, he, hway, k⟩ := h
    refine ⟨_, (pss_cons (ps_if (PW.pt (pw_and (pt_cmpR op_eq (pv 1) pe_int (nomark _)) (pw_and1 (pt_cmp (pc_din (hu1 hr) (pv 2) (pv 0)) rfl))))
      (pss_one (ps_ret pe_str))
      pss_nil)
      (pss_cons (ps_if (PW.pt (pw_or (PW.pt (pw_and (pt_cmpR op_gt (pv 1) pe_int (nomark _)) (pw_and1 (pt_cmp (pc_dnotin (hu1 hr) (pv 2) (pv 0)) rfl)))) (pw_or1 (PW.pt (pw_and (pt_cmpR op_eq (pv 1) pe_int (nomark _)) (pw_and1 (pt_cmp (pc_dnotin (hu1 hr) (pv 3) (pv 0)) rfl)))))))
      (pss_one (ps_ret pe_str))
      pss_nil)
      (pss_cons (ps_if (pt_cmpR op_lt (pv 4) pe_int (nomark _))
      (pss_one (ps_ret pe_str))
      pss_nil)
      (pss_one (ps_ret (pe_ix (ix_listK (K := K)) (pe_lst (pa_cons pe_str (pa_cons pe_str pa_nil))) (pe_callTy call_int1 (by rfl) T.b.int_ (by decide +kernel) (pa_cons (pe_and (pe_cmpR op_gt (pv 1) pe_int (nomark _)) (pe_one (pe_cmpR op_lt (pe_dget (hu1 hr) (pv 0) (pv 2) (fun _ _ => rfl)) (pv 4) (nomark _)))) pa_nil)) (fun _ _ => rfl))))))), ?_⟩
    have h_held : Rd H e (.dK (kvM m)) := Or.inl he
    have iw : ∀ G, Dx G (.int way) (.int way) := fun _ => .int _
    have ia : ∀ G, Dx G (.str a) (.str a) := fun _ => .str _
    have ib : ∀ G, Dx G (.str b) (.str b) := fun _ => .str _
    have ic : ∀ G, Dx G (.int c) (.int c) := fun _ => .int _
    refine q_when (G := fun _ => none) (b := decide (way = 0) && (get m a).isSome) ((fun h_way h_one => (et_and (et_test (ev_op (ev_var rfl h_way) ev_int rd_eqI)) (fun _ => (et_B (ev_din (ev_var rfl h_one) rfl h_held))))) (iw _) (ia _)) emp_sb (fun hb G1 H1 g1 => ?_) (fun hb G1 H1 g1 => ?_)
    · refine s_ret ev_str g1.s fun v G2 H2 g2 hv => ?_
      obtain rfl := hv.str_eq
      have := k H2 ((sb_of g1).trans (sb_of g2))
      unfold dueS at this
      rw [if_pos hb] at this
      exact this
    have h0 := hb
    have h_held := rd_gr g1 h_held
    refine q_when (b := (decide (0 < way) && !(get m a).isSome) || (decide (way = 3) && !(get m b).isSome)) ((fun h_way h_one h_other => (et_or (et_and (et_test (ev_op (ev_var rfl h_way) ev_int rd_gt)) (fun _ => (et_B (ev_dnotin (ev_var rfl h_one) rfl h_held)))) (fun _ => (et_and (et_test (ev_op (ev_var rfl h_way) ev_int rd_eqI)) (fun _ => (et_B (ev_dnotin (ev_var rfl h_other) rfl h_held))))))) (iw _) (ia _) (ib _)) g1.s (fun hb G2 H2 g2 => ?_) (fun hb G2 H2 g2 => ?_)
    · refine s_ret ev_str g2.s fun v G3 H3 g3 hv => ?_
      obtain rfl := hv.str_eq
      have := k H3 (((sb_of g1).trans (sb_of g2)).trans (sb_of g3))
      unfold dueS at this
      rw [if_neg (by rw [h0]; exact Bool.false_ne_true), if_pos hb] at this
      exact this
    have h1 := hb
    have h_held := rd_gr g2 h_held
    refine q_when (b := decide (c < 0)) ((fun h_coins => (et_test (ev_op (ev_var rfl h_coins) ev_int rd_lt))) (ic _)) g2.s (fun hb G3 H3 g3 => ?_) (fun hb G3 H3 g3 => ?_)
    · refine s_ret ev_str g3.s fun v G4 H4 g4 hv => ?_
      obtain rfl := hv.str_eq
      have := k H4 (((sb_of g1).trans (sb_of g2)).trans ((sb_of g3).trans (sb_of g4)))
      unfold dueS at this
      rw [if_neg (by rw [h0]; exact Bool.false_ne_true), if_neg (by rw [h1]; exact Bool.false_ne_true), if_pos (of_decide_eq_true hb)] at this
      exact this
    have h2 := of_decide_eq_false hb
    have h_held := rd_gr g3 h_held
    have hx : 1 < way → ∃ y, get m a = some y := fun hw => by
      cases q : get m a with
      | none =>
        rw [q] at h1
        have z : decide (0 < way) = true := decide_eq_true (by omega)
        rw [z] at h1
        exact absurd h1 (by simp)
      | some y => exact ⟨y, rfl⟩
    refine s_ret (ev_op (ev_lst (ea_cons ev_str (ea_cons ev_str ea_nil)) (by show 2 ≤ 100000; decide)).dat (ev_cb (ea_cons (ev_andV (b := decide (1 < way)) (c := decide ((get m a).getD 0 < c)) ((fun h_way => (ev_op (ev_var rfl h_way) ev_int rd_gt)) (iw _)) (fun hw => by
        obtain ⟨y, hy⟩ := hx (of_decide_eq_true hw)
        rw [hy]
        exact (fun h_one h_coins => (ev_op (ev_dget rfl h_held (ev_var rfl h_one) (by walk_at "dict")) (ev_var rfl h_coins) rd_lt)) (ia _) (ic _))) ea_nil) cd_intB) (rd_ixL (d := .str (if (decide (1 < way) && decide ((get m a).getD 0 < c)) = true then "short" else "")) (by cases (decide (1 < way) && decide ((get m a).getD 0 < c)) <;> rfl))) g3.s fun v G4 H4 g4 hv => ?_
    obtain rfl := hv.str_eq
    have := k H4 (((sb_of g1).trans (sb_of g2)).trans ((sb_of g3).trans (sb_of g4)))
    unfold dueS at this
    rw [if_neg (by rw [h0]; exact Bool.false_ne_true), if_neg (by rw [h1]; exact Bool.false_ne_true), if_neg h2] at this
    exact this

abbrev spMoved : Sp := fun vs H Q _ => ∃ (e : Addr) (m m' : Mp) (way : Int) (a b : Str) (c : Int), vs = [.ref e, .int way, .str a, .str b, .int c] ∧ H e = some (.dK (kvM m)) ∧ m.length < 900 ∧ (way = 0 ∨ way = 1 ∨ way = 2 ∨ way = 3) ∧ doR m way a b c = .ok m' ∧ ∀ H', Sb H H' → Q .non (upd H' e (.dK (kvM m')))
theorem add_inv {m m' : Mp} {a : Str} {c : Int} (h : addR m a c = .ok m') : m' = put m a c := by
  unfold addR at h
  split at h
  · cases h
  · split at h
    · cases h
    · cases h; rfl
theorem fill_inv {m m' : Mp} {a : Str} {c : Int} (h : fillR m a c = .ok m') : ∃ y, get m a = some y ∧ m' = put m a (y + c) := by
  unfold fillR at h
  split at h
  · cases h
  · rename_i y hy
    split at h
    · cases h
    · cases h; exact ⟨y, hy, rfl⟩
theorem spend_inv {m m' : Mp} {a : Str} {c : Int} (h : spendR m a c = .ok m') : ∃ y, get m a = some y ∧ m' = put m a (y - c) := by
  unfold spendR at h
  split at h
  · cases h
  · rename_i y hy
    split at h
    · cases h
    · split at h
      · cases h
      · cases h; exact ⟨y, hy, rfl⟩
theorem pay_inv {m m' : Mp} {a b : Str} {c : Int} (h : payR m a b c = .ok m') : ∃ y z, get m a = some y ∧ get (put m a (y - c)) b = some z ∧ m' = put (put m a (y - c)) b (z + c) := by
  unfold payR at h
  split at h
  · cases h
  · split at h
    · cases h
    · split at h
      · cases h
      · rename_i m1 h1
        obtain ⟨y, hy, rfl⟩ := spend_inv h1
        obtain ⟨z, hz, rfl⟩ := fill_inv h
        exact ⟨y, z, hy, hz, rfl⟩
theorem ok_Lmoved (T : Txt K mg A) : FnOk P w K mg base CX0 1 A.a_Lmoved A.d_Lmoved ["_law_held", "_law_way", "_law_one", "_law_other", "_law_coins"] spMoved := by
  refine T.F_Lmoved.ok sc_Lmoved (fun vs H Q E h => ?_) (fun cdv A' outer s H vs Q E hr h => ?_)
  · obtain ⟨_, _, _, _, _, _, _, rfl, _⟩ := h; rfl
  · obtain ⟨e, m, m', way, a, b, c, rfl, he, hl, hway, hok, k⟩ := h
    refine ⟨_, (pss_one (ps_if (pt_cmpR op_eq (pv 1) pe_int (nomark _))
      (pss_one (ps_dput (hu1 hr) (pv 0) (pv 2) (pv 4) rfl))
      (pss_one (ps_if (pt_cmpR op_eq (pv 1) pe_int (nomark _))
      (pss_one (ps_dput (hu1 hr) (pv 0) (pv 2) (pe_op op_add (pe_dget (hu1 hr) (pv 0) (pv 2) (fun _ _ => rfl)) (pv 4)) rfl))
      (pss_cons (ps_dput (hu1 hr) (pv 0) (pv 2) (pe_op op_sub (pe_dget (hu1 hr) (pv 0) (pv 2) (fun _ _ => rfl)) (pv 4)) rfl)
      (pss_one (ps_if (pt_cmpR op_eq (pv 1) pe_int (nomark _))
      (pss_one (ps_dput (hu1 hr) (pv 0) (pv 3) (pe_op op_add (pe_dget (hu1 hr) (pv 0) (pv 3) (fun _ _ => rfl)) (pv 4)) rfl))
      pss_nil))))))), ?_⟩
    have h_held : Rd H e (.dK (kvM m)) := Or.inl he
    have iw : ∀ G, Dx G (.int way) (.int way) := fun _ => .int _
    have ia : ∀ G, Dx G (.str a) (.str a) := fun _ => .str _
    have ib : ∀ G, Dx G (.str b) (.str b) := fun _ => .str _
    have ic : ∀ G, Dx G (.int c) (.int c) := fun _ => .int _
    refine s_if (G := fun _ => none) (b := decide (way = 0)) ((fun h_way => (et_test (ev_op (ev_var rfl h_way) ev_int rd_eqI))) (iw _)) emp_sb (fun hb G1 H1 g1 => ?_) (fun hb G1 H1 g1 => ?_)
    · have hb := of_decide_eq_true hb
      have e0 : doR m way a b c = addR m a c := by unfold doR; rw [if_pos hb]
      rw [e0] at hok
      refine s_dput rfl (g1.h _ _ (by simp) he) (by omega) g1.s ((fun h_coins => (ev_var rfl h_coins)) (ic _)) (fun G2 H2 g2 => (fun h_one => (ev_var rfl h_one)) (ia _)) fun G2 H2 g2 => ?_
      rw [← add_inv hok]
      exact k H2 ((sb_of g1).trans (sb_of g2))
    have h0 := of_decide_eq_false hb
    refine s_if (b := decide (way = 1)) ((fun h_way => (et_test (ev_op (ev_var rfl h_way) ev_int rd_eqI))) (iw _)) g1.s (fun hb G2 H2 g2 => ?_) (fun hb G2 H2 g2 => ?_)
    · have hb := of_decide_eq_true hb
      have e0 : doR m way a b c = fillR m a c := by unfold doR; rw [if_neg h0, if_pos hb]
      rw [e0] at hok
      obtain ⟨y, hy, rfl⟩ := fill_inv hok
      have h_held := rd_gr g2 (rd_gr g1 h_held)
      refine s_dput rfl (g2.h _ _ (by simp) (g1.h _ _ (by simp) he)) (by omega) g2.s ((fun h_one h_coins => (ev_op (ev_dget rfl h_held (ev_var rfl h_one) (by walk_at "dict")) (ev_var rfl h_coins) rd_add)) (ia _) (ic _)) (fun G3 H3 g3 => (fun h_one => (ev_var rfl h_one)) (ia _)) fun G3 H3 g3 => ?_
      exact k H3 (((sb_of g1).trans (sb_of g2)).trans (sb_of g3))
    have h1 := of_decide_eq_false hb
    have hsp : ∃ y, get m a = some y ∧ ((way = 2 ∧ m' = put m a (y - c)) ∨ (way = 3 ∧ ∃ z, get (put m a (y - c)) b = some z ∧ m' = put (put m a (y - c)) b (z + c))) := by
      by_cases h2 : way = 2
      · have e0 : doR m way a b c = spendR m a c := by unfold doR; rw [if_neg h0, if_neg h1, if_pos h2]
        rw [e0] at hok
        obtain ⟨y, hy, e⟩ := spend_inv hok
        exact ⟨y, hy, Or.inl ⟨h2, e⟩⟩
      · have e0 : doR m way a b c = payR m a b c := by unfold doR; rw [if_neg h0, if_neg h1, if_neg h2]
        rw [e0] at hok
        obtain ⟨y, z, hy, hz, e⟩ := pay_inv hok
        exact ⟨y, hy, Or.inr ⟨by omega, z, hz, e⟩⟩
    obtain ⟨y, hy, hsp⟩ := hsp
    have h_held := rd_gr g2 (rd_gr g1 h_held)
    have he2 := g2.h _ _ (by simp) (g1.h _ _ (by simp) he)
    have s2 : Sb H H2 := (sb_of g1).trans (sb_of g2)
    refine seqI ?_
    refine s_dput rfl he2 (by omega) g2.s ((fun h_one h_coins => (ev_op (ev_dget rfl h_held (ev_var rfl h_one) (by walk_at "dict")) (ev_var rfl h_coins) rd_sub)) (ia _) (ic _)) (fun G3 H3 g3 => (fun h_one => (ev_var rfl h_one)) (ia _)) fun G3 H3 g3 => ?_
    have he3 : (upd H3 e (.dK (kvM (put m a (y - c))))) e = some (.dK (kvM (put m a (y - c)))) := upd_same
    have hl3 : (put m a (y - c)).length < 1000 := by have := len_put m a (y - c); omega
    have s3 : ∀ H4, Sb (upd H3 e (.dK (kvM (put m a (y - c))))) H4 → Sb H (upd H4 e (.dK (kvM m))) := fun H4 s4 x o hx => by
      by_cases hd : x = e
      · subst hd; rw [he] at hx; cases hx; exact upd_same
      · rw [upd_ne hd]; exact s4 _ _ ((upd_ne hd).trans (g3.h _ _ (by simp) (s2 _ _ hx)))
    rcases hsp with ⟨h2, rfl⟩ | ⟨h3, z, hz, rfl⟩
    · refine s_if (G := fun _ => none) (b := false) (evt_is ((fun h_way => (et_test (ev_op (ev_var rfl h_way) ev_int rd_eqI))) (iw _)) (by rw [h2]; rfl)) emp_sb (fun hb => by cases hb) (fun _ G4 H4 g4 => nxI ?_)
      have := k _ (s3 H4 (sb_of g4))
      rw [upd_upd, upd_keep (sb_of g4 _ _ upd_same)] at this
      exact this
    · refine s_if (G := fun _ => none) (b := true) (evt_is ((fun h_way => (et_test (ev_op (ev_var rfl h_way) ev_int rd_eqI))) (iw _)) (by rw [h3]; rfl)) emp_sb (fun _ G4 H4 g4 => ?_) (fun hb => by cases hb)
      have he4 := g4.h _ _ (by simp) he3
      have h_held : Rd H4 e (.dK (kvM (put m a (y - c)))) := Or.inl he4
      refine s_dput rfl he4 hl3 g4.s ((fun h_other h_coins => (ev_op (ev_dget rfl h_held (ev_var rfl h_other) (by walk_at "dict")) (ev_var rfl h_coins) rd_add)) (ib _) (ic _)) (fun G5 H5 g5 => (fun h_other => (ev_var rfl h_other)) (ib _)) fun G5 H5 g5 => ?_
      have := k _ (s3 H5 ((sb_of g4).trans (sb_of g5)))
      rw [upd_upd] at this
      exact this

/-! ### the kinds -/
def kstr : Kd → Str
  | .taken => "taken"
  | .house => "house"
  | .bad => "bad"
  | .short => "short"
theorem pss_ex {X : Cx} {sts : List Stmt} {α : Type} {p : α → Prop} {t : α → TS} (h : ∀ x, p x → PSs X sts (t x)) : PSs X sts (fun D σ H => ∃ x, p x ∧ t x D σ H) := ⟨fun pins s σ H D I hw => by
  obtain ⟨x, hp, hx⟩ := hw
  exact (h x hp).run pins s σ H D I hx⟩
def pick (b : Bool) (z : Str) : Str := if b then z else ""
theorem ev_pick {te : TE} {σ : L2.St} {G H : Hp} {b : Bool} {z : Str} {K : PySem.W.Frag} (h : EvD te σ G H (.bool b)) : EvD (tOp (rIxL K) (tLst (tCons (tC (.str "")) (tCons (tC (.str z)) tNil))) (tCB (fun xs H Q => (∃ i, xs = [.int i] ∧ Q (.int i) H) ∨ ∃ k, xs = [.bl k] ∧ Q (.int (if k then 1 else 0)) H) (tCons te tNil))) σ G H (.str (pick b z)) :=
  ev_op (ev_lst (ea_cons ev_str (ea_cons ev_str ea_nil)) (by show 2 ≤ 100000; decide)).dat (ev_cb (ea_cons h ea_nil) cd_intB) (rd_ixL (by cases b <;> rfl))
/-- isinstance by kinds -/
theorem kit_of {K : PySem.W.Frag} {mg : Str → Option Value} {B : Bd} (U : Tx7 K mg B) : ∀ k j : Kd, PySem.W.kitOne K (.ref (B.cls k)) (.ref (B.cls j)) = some (decide (k = j))
  | .taken, .taken => U.k_Taken_Taken
  | .taken, .house => U.k_Taken_NoHouse
  | .taken, .bad => U.k_Taken_BadCoins
  | .taken, .short => U.k_Taken_NoCoins
  | .house, .taken => U.k_NoHouse_Taken
  | .house, .house => U.k_NoHouse_NoHouse
  | .house, .bad => U.k_NoHouse_BadCoins
  | .house, .short => U.k_NoHouse_NoCoins
  | .bad, .taken => U.k_BadCoins_Taken
  | .bad, .house => U.k_BadCoins_NoHouse
  | .bad, .bad => U.k_BadCoins_BadCoins
  | .bad, .short => U.k_BadCoins_NoCoins
  | .short, .taken => U.k_NoCoins_Taken
  | .short, .house => U.k_NoCoins_NoHouse
  | .short, .bad => U.k_NoCoins_BadCoins
  | .short, .short => U.k_NoCoins_NoCoins
theorem exm_of {K : PySem.W.Frag} {mg : Str → Option Value} {B : Bd} (U : Tx7 K mg B) : ∀ k : Kd, PySem.W.exmOne K (.ref (B.cls k)) (.ref B.cH) = some true
  | .taken => U.x_Taken.e
  | .house => U.x_NoHouse.e
  | .bad => U.x_BadCoins.e
  | .short => U.x_NoCoins.e
theorem exc_of {K : PySem.W.Frag} {mg : Str → Option Value} {B : Bd} (U : Tx7 K mg B) : ∀ k : Kd, ExcC K (B.cls k)
  | .taken => U.x_Taken.i
  | .house => U.x_NoHouse.i
  | .bad => U.x_BadCoins.i
  | .short => U.x_NoCoins.i
abbrev spKinds (B : Bd) : Sp := fun vs H Q _ => ∃ (p d : Addr) (m : Mp) (way : Int) (a b : Str) (c : Int), vs = [.ref p, .int way, .str a, .str b, .int c] ∧ PuAt B.C H p d m ∧
  (∀ k, doR m way a b c = .error k → ∀ H', Sb H H' → Q (.str (kstr k)) H') ∧ (∀ m', doR m way a b c = .ok m' → ∀ H', Sb H H' → Q (.str "") (upd H' d (.dK (kvM m'))))
theorem ok_Lkinds {B : Bd} (T : Txt K mg A) (U : Tx7 K mg B) : FnOk P w K mg base CX0 7 A.a_Lkinds A.d_Lkinds ["_law_purses", "_law_way", "_law_one", "_law_other", "_law_coins"] (spKinds B) := by
  have G_do := ok_Ldo (P := P) (w := w) (base := base) T U
  refine T.F_Lkinds.ok sc_Lkinds (fun vs H Q E h => ?_) (fun cdv A' outer s H vs Q E hr h => ?_)
  · obtain ⟨_, _, _, _, _, _, _, rfl, _⟩ := h; rfl
  · obtain ⟨p, d, m, way, a, b, c, rfl, hp, kE, kQ⟩ := h
    refine ⟨_, pss_cons (ps_set (i := 5) sc_Lkinds.nd rfl (Or.inl rfl) pe_str)
      (pss_cons (ps_try_as (i := 6) (Wout := fun _ _ _ _ => False) rfl rfl sc_Lkinds.nd rfl rfl ⟨rfl, by decide, Or.inl U.gH⟩ takes0
        (fun W pn xe tk _ => pss_one (ps_if (pt_cmpR op_notN (pe_callS G_do (hr.mono (by omega)) (by rfl) T.m_Ldo T.F_Ldo.kp T.b_Ldo (fun σ => passAt tk σ) (pa_cons (pv 0) (pa_cons (pv 1) (pa_cons (pv 2) (pa_cons (pv 3) (pa_cons (pv 4) pa_nil)))))) pe_non (nomark _)) (pss_one (ps_set (i := 5) sc_Lkinds.nd rfl (Or.inl rfl) pe_str)) pss_nil))
        (fun ax oe cls dd pn hz hf => pss_ex (α := Kd) (p := fun k => cls = .ref (B.cls k)) fun k hk => pss_cons
          (ps_set (i := 5) sc_Lkinds.nd rfl (Or.inl rfl) (pe_op op_add_str
            (pe_ix (ix_listK (K := K)) (pe_lst (pa_cons pe_str (pa_cons pe_str pa_nil))) (pe_callTy call_int1 (by rfl) T.b.int_ (by decide +kernel) (pa_cons (pe_callB (call_isD (exc_of U k) (by rw [hk] at hz; exact hz) hf) (by rfl) T.b.isinstance (by decide +kernel) (pa_cons (pv 6) (pa_cons (pe_glob (v := .ref B.c_Taken) (by rfl) U.x_Taken.x.g rfl) pa_nil))) pa_nil)) (fun _ _ => rfl))
            (pe_ix (ix_listK (K := K)) (pe_lst (pa_cons pe_str (pa_cons pe_str pa_nil))) (pe_callTy call_int1 (by rfl) T.b.int_ (by decide +kernel) (pa_cons (pe_callB (call_isD (exc_of U k) (by rw [hk] at hz; exact hz) hf) (by rfl) T.b.isinstance (by decide +kernel) (pa_cons (pv 6) (pa_cons (pe_glob (v := .ref B.c_NoHouse) (by rfl) U.x_NoHouse.x.g rfl) pa_nil))) pa_nil)) (fun _ _ => rfl))))
          (pss_one (ps_set (i := 5) sc_Lkinds.nd rfl (Or.inl rfl) (pe_op op_add_str (pe_op op_add_str (pv 5)
            (pe_ix (ix_listK (K := K)) (pe_lst (pa_cons pe_str (pa_cons pe_str pa_nil))) (pe_callTy call_int1 (by rfl) T.b.int_ (by decide +kernel) (pa_cons (pe_callB (call_isD (exc_of U k) (by rw [hk] at hz; exact hz) hf) (by rfl) T.b.isinstance (by decide +kernel) (pa_cons (pv 6) (pa_cons (pe_glob (v := .ref B.c_BadCoins) (by rfl) U.x_BadCoins.x.g rfl) pa_nil))) pa_nil)) (fun _ _ => rfl)))
            (pe_ix (ix_listK (K := K)) (pe_lst (pa_cons pe_str (pa_cons pe_str pa_nil))) (pe_callTy call_int1 (by rfl) T.b.int_ (by decide +kernel) (pa_cons (pe_callB (call_isD (exc_of U k) (by rw [hk] at hz; exact hz) hf) (by rfl) T.b.isinstance (by decide +kernel) (pa_cons (pv 6) (pa_cons (pe_glob (v := .ref B.c_NoCoins) (by rfl) U.x_NoCoins.x.g rfl) pa_nil))) pa_nil)) (fun _ _ => rfl)))))))
      (pss_one (ps_ret (pv 5)))), ?_⟩
    refine ⟨_, rfl, _, rfl, _, rfl, _, rfl, _, rfl, p, d, m, way, a, b, c, rfl, hp, fun k hk H1 s1 => ?_, fun m' hm H1 s1 => ?_⟩
    · intro o H4 s4 hx0
      have s1 := s1.trans s4
      refine ⟨true, exm_of U k, fun _ ax hax => ⟨k, rfl, ?_⟩, fun q => Bool.noConfusion q⟩
      refine q_asg (G := fun _ => none) (ev_op (ev_pick (ev_isE hx0 rfl (kit_of U k .taken))) (ev_pick (ev_isE hx0 rfl (kit_of U k .house))) (rd_addS (by cases k <;> decide))) emp_sb fun v G2 H2 g2 hv => ?_
      obtain rfl := hv.str_eq
      have hx1 := hx0.step g2
      refine s_asg (ev_op (ev_op (ev_var rfl (.str _)) (ev_pick (ev_isE hx1 rfl (kit_of U k .bad))) (rd_addS (by cases k <;> decide))) (ev_pick (ev_isE hx1 rfl (kit_of U k .short))) (rd_addS (by cases k <;> decide))) g2.s fun v G3 H3 g3 hv => ?_
      obtain rfl := hv.str_eq
      refine ⟨_, rfl, ?_⟩
      have e : pick (decide (k = .taken)) "taken" ++ pick (decide (k = .house)) "house" ++ pick (decide (k = .bad)) "bad" ++ pick (decide (k = .short)) "short" = kstr k := by cases k <;> decide
      have := kE k hk H3 (s1.trans ((sb_of g2).trans (sb_of g3)))
      rw [← e] at this
      exact this
    · refine ⟨rfl, _, rfl, ifF rfl (nxI ?_)⟩
      exact ⟨_, rfl, kQ m' hm H1 s1⟩

/-- o.m(e, ..) within a try -/
def tMethS (C : Addr) (m : Str) (sp : Sp) (E : L2.St → XK) (ta : TE) (t : TA) : TE := fun σ H Q => ta σ H fun x H1 => ∃ a dx fs, x = .ref a ∧ H1 a = some (.ins C dx fs) ∧ fs.lookup m = none ∧ t σ H1 fun vs H2 => sp (x :: vs) H2 Q (E σ)
open PySem.Spec PyProof.Rows in
theorem pe_methS {X : Cx} {CX : CXT} {k : Nat} {f C : Addr} {fd : FuncData} {ps : List Str} {sp : Sp} {E : L2.St → XK} {m : Str} {pos apos : Pos} {e o : Expr} {es : List Expr} {ta : TE} {t : TA} {pl : Sem Bool} (he : PE X o ta) (c : Cls X.K C) (hm : Meth X.K C m f)
    (F : FnOk X.prog X.w X.K X.mg X.base CX k f fd ps sp) (hr : Room k X.A) (hb : Binds X.K fd ps []) (hx : ∀ σ, PassesAt CX X σ (E σ)) (ha : PA X (e :: es) t)
    (hst : starEach (e :: es) X.env = (false, eval e X.env) :: starEach es X.env := by rfl) (hpl : (backTo pos (starEach es X.env)).any (·.1) = false := by rfl)
    (ht : eval (.Call (.Attribute o m apos) (e :: es) [] pos) X.env = (do
      let ov ← eval o X.env
      standAt apos.atName
      let (f, first) ← holding [ov] (getMethod ov m pl)
      callWith pos f first (backTo pos (starEach (e :: es) X.env)) (backToKw pos (keywordEach [] X.env))) := by rfl) :
    PE X (.Call (.Attribute o m apos) (e :: es) [] pos) (tMethS C m sp E ta t) := by
  refine ⟨fun pins s σ H Q I h => ?_⟩
  refine PySem.W.methodCall_KW (pl := pl) (thn (he.run pins s σ H _ I h) fun u s1 ⟨x, H1, I1, rx, a, dx, fs, ex, ea, l, q⟩ => ?_) ht
  subst ex
  have eu : u = Value.ref a := rx
  subst eu
  refine getmeth_ok I1 ea c hm l ?_
  refine PySem.W.callWith_K (first := [.ref a]) (h₀ := X.base) I.ok.mod.kin hm.kp (thn (ha.run pos pins s1 σ H1 _ I1 q) fun us s2 ⟨vs, H2, I2, r, q2⟩ => ⟨I2.kIn, ?_⟩) hst hpl
  exact run_fnS (us := .ref a :: us) (vs := .ref a :: vs) F hr hb (hx σ) I2 (.cons rfl r) q2
abbrev spStrange (B : Bd) : Sp := fun vs H Q _ => ∃ (p d e : Addr) (m : Mp) (n : Str), vs = [.ref p, .str n, .ref e] ∧ PuAt B.C H p d m ∧ H e = some (.dK (kvM m)) ∧ ∀ H', Sb H H' → Q (.bl true) H'
theorem ok_Lstrange {B : Bd} (T : Txt K mg A) (U : Tx7 K mg B) : FnOk P w K mg base CX0 4 A.a_Lstrange A.d_Lstrange ["_law_purses", "_law_name_here", "_law_held"] (spStrange B) := by
  have G_coins := ok_coins (P := P) (w := w) (base := base) T U
  refine T.F_Lstrange.ok sc_Lstrange (fun vs H Q E h => ?_) (fun cdv A' outer s H vs Q E hr h => ?_)
  · obtain ⟨_, _, _, _, _, rfl, _⟩ := h; rfl
  · obtain ⟨p, d, e, m, n, rfl, hp, he, k⟩ := h
    obtain ⟨dx, hi⟩ := hp.1
    refine ⟨_, pss_cons (ps_set (i := 3) sc_Lstrange.nd rfl (Or.inl rfl) pe_bl)
      (pss_cons (ps_try_only (Wout := fun _ _ _ _ => False) (ts := fun _ _ _ => tAsg (tC (.bl true)) (gName 3)) rfl rfl ⟨rfl, by decide, Or.inl U.x_NoHouse.x.g⟩ takes0
        (fun W pn xe tk _ => pss_one (ps_expr (pe_methS (pv 0) U.cl U.m_Mcoins G_coins (hr.mono (by omega)) U.b_Mcoins (fun σ => passAt tk σ) (by exact (pa_cons (pv 1) pa_nil)))))
        (fun _ _ _ _ _ _ _ => pss_one (ps_set (i := 3) sc_Lstrange.nd rfl (Or.inl rfl) pe_bl)))
      (pss_one (ps_ret (pe_cmpR op_eq (pv 3) (pe_cmp (pc_dnotin (hu1 hr) (pv 1) (pv 2)) rfl) (nomark _))))), ?_⟩
    have fin : ∀ (H5 : Hp), Sb H H5 → ∀ (b : Bool), (b = !(get m n).isSome) → tRet (tOp rEq (tVar 3) (tDNotIn (tVar 1) (tVar 2))) { nx := fun _ H' => Q .non H', rt := Q } [some (.ref p), some (.str n), some (.ref e), some (.bl b)] H5 := fun H5 s5 b hb => by
      refine s_ret (G := fun _ => none) (ev_op (ev_var rfl (.bl b)) (ev_dnotin (ev_var rfl (.str n)) rfl (Or.inl (s5 _ _ he))) rd_eqB) emp_sb fun v G1 H1 g1 hv => ?_
      have e1 := hv.bl_eq
      rw [e1, hb, decide_eq_true rfl]
      exact k H1 (s5.trans (sb_of g1))
    refine ⟨_, rfl, p, dx, _, rfl, hi, no_meth (by decide +kernel), _, rfl, p, d, m, n, rfl, hp, fun hn => ?_, fun c hc => ?_⟩
    · intro o H5 s5 _
      exact ⟨true, U.nn, fun _ ax _ => fin H5 s5 true (by rw [hn]; rfl), fun q => Bool.noConfusion q⟩
    · exact fin H (Sb.refl H) false (by rw [hc]; rfl)

mutual
def dep : PyData → Nat
  | .list ds => 1 + deps ds
  | .tuple ds => 1 + deps ds
  | _ => 0
def deps : List PyData → Nat
  | [] => 0
  | d :: ds => max (dep d) (deps ds)
end
theorem dep_le : ∀ {ds : List PyData} {d : PyData}, d ∈ ds → dep d ≤ deps ds
  | e :: es, d, h => by
    rcases List.mem_cons.mp h with h | h
    · subst h; unfold deps; exact Nat.le_max_left _ _
    · unfold deps; exact Nat.le_trans (dep_le h) (Nat.le_max_right _ _)
mutual
/-- data that the comparison goes through -/
def good : PyData → Bool
  | .list ds => decide (ds.length ≤ 40000) && goods ds
  | .tuple ds => decide (ds.length ≤ 40000) && goods ds
  | .dict _ => false
  | _ => true
def goods : List PyData → Bool
  | [] => true
  | d :: ds => good d && goods ds
end
theorem good_of : ∀ {ds : List PyData} {d : PyData}, goods ds = true → d ∈ ds → good d = true
  | e :: es, d, hg, h => by
    unfold goods at hg
    rw [Bool.and_eq_true] at hg
    rcases List.mem_cons.mp h with h | h
    · subst h; exact hg.1
    · exact good_of hg.2 h
abbrev spSame (n : Nat) : Sp := SpD (α := PyData) (fun d => [d, d]) (fun d => dep d ≤ n ∧ good d = true) (fun _ => .bool true)
theorem rd_eqX {d : PyData} (h : dep d = 0) (hd : good d = true) : RD rEq d d (.bool true) := fun G1 _ x y s hx hy _ q => by
  have e : x = y := by
    cases hx with
    | non => rw [hy.non_eq]
    | bl b => rw [hy.bl_eq]
    | int i => rw [hy.int_eq]
    | str z => rw [hy.str_eq]
    | lst _ _ => unfold dep at h; omega
    | tup _ _ => unfold dep at h; omega
  subst e
  refine ⟨?_, ?_⟩
  · cases hx with
    | non => rfl
    | bl b => rfl
    | int i => rfl
    | str z => rfl
    | lst _ _ => unfold dep at h; omega
    | tup _ _ => unfold dep at h; omega
  · rw [decide_eq_true rfl]; exact q _ G1 _ (.refl s) (.bl _)
theorem rd_ixanyL {K : PySem.W.Frag} {ds : List PyData} {i : Int} {d : PyData} (h : atI ds i = some d) : RD (rIx K) (.list ds) (.int i) d := fun G1 H1 x y s hx hy Q q => Or.inl (rd_ixL h G1 H1 x y s hx hy Q q)
theorem rd_ixanyT {K : PySem.W.Frag} {ds : List PyData} {i : Int} {d : PyData} (h : atI ds i = some d) : RD (rIx K) (.tuple ds) (.int i) d := fun G1 H1 x y s hx hy Q q => Or.inr (Or.inl (rd_ixT h G1 H1 x y s hx hy Q q))
theorem atI_getD {ds : List PyData} {i : Nat} (h : i < ds.length) : atI ds (i : Int) = some (ds.getD i .none) := by
  refine atI_nat ?_
  rw [List.getD_eq_getElem?_getD, List.getElem?_eq_getElem h]; rfl
theorem getD_mem {ds : List PyData} {i : Nat} (h : i < ds.length) : ds.getD i .none ∈ ds := by
  rw [List.getD_eq_getElem?_getD, List.getElem?_eq_getElem h]; exact List.getElem_mem h
theorem given_true (n : Nat) : (given n (fun _ => true) fun _ => PyData.bool true) = (List.replicate n true).map .bool := by
  unfold given
  induction n with
  | zero => rfl
  | succ n ih =>
    rw [List.range_succ, List.filter_append, List.map_append, ih, List.replicate_succ', List.map_append]
    rfl
theorem all_rep (n : Nat) : (List.replicate n true).all id = true := by
  induction n with
  | zero => rfl
  | succ n ih => rw [List.replicate_succ, List.all_cons, ih]; rfl
local macro_rules | `(tactic| walk_at "eqx") => `(tactic| first | rfl | (unfold dep; rfl) | (unfold good; rfl))
local macro_rules | `(tactic| walk_at "pre") => `(tactic| first | exact hcall _ ‹_› | trivial)
local macro_rules | `(tactic| walk_at "lenany") => `(tactic| first | exact cd_lenL | exact cd_lenT)
local macro_rules | `(tactic| walk_at "ixany") => `(tactic| first | exact rd_ixanyL (atI_getD (by omega)) | exact rd_ixanyT (atI_getD (by omega)))
local macro_rules | `(tactic| walk_at "bools") => `(tactic| exact given_true _)
local macro_rules | `(tactic| walk_at "kit") => `(tactic| first | exact kit_NoneType_bool | exact kit_NoneType_int | exact kit_NoneType_str | exact kit_NoneType_list | exact kit_NoneType_tuple | exact kit_bool_bool | exact kit_bool_int | exact kit_bool_str | exact kit_bool_list | exact kit_bool_tuple | exact kit_int_bool | exact kit_int_int | exact kit_int_str | exact kit_int_list | exact kit_int_tuple | exact kit_str_bool | exact kit_str_int | exact kit_str_str | exact kit_str_list | exact kit_str_tuple | exact kit_list_bool | exact kit_list_int | exact kit_list_str | exact kit_list_list | exact kit_list_tuple | exact kit_tuple_bool | exact kit_tuple_int | exact kit_tuple_str | exact kit_tuple_list | exact kit_tuple_tuple)
def spSame' : Nat → Sp
  | 0 => fun _ _ _ _ => False
  | n + 1 => spSame n
theorem step_Lsame (T : Txt K mg A) (n : Nat) (G_Lsame : FnOk P w K mg base CX0 n A.a_Lsame A.d_Lsame ["_law_found", "_law_due_here"] (spSame' n)) : FnOk P w K mg base CX0 (n + 1) A.a_Lsame A.d_Lsame ["_law_found", "_law_due_here"] (spSame n) := by
  refine T.F_Lsame.ok sc_Lsame (fun vs H Q E h => ?_) (fun cdv A' outer s H vs Q E hr h => ?_)
  · obtain ⟨G, x, _, hx, _⟩ := h
    exact hx.len
  · obtain ⟨G, d, s0, hx, ⟨hdep, hgood⟩, k⟩ := h
    obtain ⟨v0, v1, rfl, h_found, h_due_here⟩ := dxs2 hx
    refine ⟨_, (pss_cons (ps_if (pt_val (pe_callB (call_isiTK (K := K)) (by rfl) T.b.isinstance (by decide +kernel) (pa_cons (pv 1) (pa_cons (pe_tup (pa_cons (pe_bltn (by rfl) T.b.tuple (by decide +kernel) (v := .ty "tuple") rfl) (pa_cons (pe_bltn (by rfl) T.b.list (by decide +kernel) (v := .ty "list") rfl) pa_nil))) pa_nil))))
      (pss_cons (ps_if (PW.pt (pw_or (pt_cmpR op_ne (pe_callB (call_isiKK (K := K)) (by rfl) T.b.isinstance (by decide +kernel) (pa_cons (pv 1) (pa_cons (pe_bltn (by rfl) T.b.tuple (by decide +kernel) (v := .ty "tuple") rfl) pa_nil))) (pe_callB (call_isiKK (K := K)) (by rfl) T.b.isinstance (by decide +kernel) (pa_cons (pv 0) (pa_cons (pe_bltn (by rfl) T.b.tuple (by decide +kernel) (v := .ty "tuple") rfl) pa_nil))) (nomark _)) (pw_or1 (pt_cmpR op_ne (pe_callB (call_isiKK (K := K)) (by rfl) T.b.isinstance (by decide +kernel) (pa_cons (pv 1) (pa_cons (pe_bltn (by rfl) T.b.list (by decide +kernel) (v := .ty "list") rfl) pa_nil))) (pe_callB (call_isiKK (K := K)) (by rfl) T.b.isinstance (by decide +kernel) (pa_cons (pv 0) (pa_cons (pe_bltn (by rfl) T.b.list (by decide +kernel) (v := .ty "list") rfl) pa_nil))) (nomark _)))))
      (pss_one (ps_ret pe_bl))
      pss_nil)
      (pss_one (ps_ret (pe_and (pe_cmpR op_eq (pe_callB (call_lenK (K := K)) (by rfl) T.b.len (by decide +kernel) (pa_cons (pv 0) pa_nil)) (pe_callB (call_lenK (K := K)) (by rfl) T.b.len (by decide +kernel) (pa_cons (pv 1) pa_nil)) (nomark _)) (pe_one (pe_callB (cr_allK (K := K) rfl) (by rfl) T.b.all (by decide +kernel) (pa_cons (pe_lc (own := [("_law_k", 2)]) (g := gName 2) rfl sc_Lsame.nd (pi_range1 (by rfl) T.b.range (pa_cons (pe_callB (call_lenK (K := K)) (by rfl) T.b.len (by decide +kernel) (pa_cons (pv 1) pa_nil)) pa_nil)) (blkOk_by (own := [("_law_k", 2)]) (N := N_Lsame) (sc := defScope s_Lsame) (by decide +kernel)) (fun _ _ _ _ _ => pg_name (i := 2) sc_Lsame.nd rfl (Or.inl rfl)) (fun _ _ _ _ _ => pts_nil) (fun _ _ _ _ _ => (pe_call G_Lsame hr (by rfl) T.m_Lsame T.F_Lsame.kp T.b_Lsame .nil pass0 (pa_cons (pe_ix (ix_seqK (K := K)) (pv 0) (pv 2) (fun _ _ => rfl)) (pa_cons (pe_ix (ix_seqK (K := K)) (pv 1) (pv 2) (fun _ _ => rfl)) pa_nil))))) pa_nil)))))))
      pss_nil)
      (pss_cons (ps_if (pt_cmpR op_isN (pv 1) pe_non (nomark _))
      (pss_one (ps_ret (pe_cmpR op_isN (pv 0) pe_non (nomark _))))
      pss_nil)
      (pss_cons (ps_if (PW.pt (pw_or (pt_val (pe_callB (call_isiKK (K := K)) (by rfl) T.b.isinstance (by decide +kernel) (pa_cons (pv 1) (pa_cons (pe_bltn (by rfl) T.b.bool (by decide +kernel) (v := .ty "bool") rfl) pa_nil)))) (pw_or1 (pt_val (pe_callB (call_isiKK (K := K)) (by rfl) T.b.isinstance (by decide +kernel) (pa_cons (pv 0) (pa_cons (pe_bltn (by rfl) T.b.bool (by decide +kernel) (v := .ty "bool") rfl) pa_nil)))))))
      (pss_one (ps_ret (pe_and (pe_callB (call_isiKK (K := K)) (by rfl) T.b.isinstance (by decide +kernel) (pa_cons (pv 1) (pa_cons (pe_bltn (by rfl) T.b.bool (by decide +kernel) (v := .ty "bool") rfl) pa_nil))) (pe_and (pe_callB (call_isiKK (K := K)) (by rfl) T.b.isinstance (by decide +kernel) (pa_cons (pv 0) (pa_cons (pe_bltn (by rfl) T.b.bool (by decide +kernel) (v := .ty "bool") rfl) pa_nil))) (pe_one (pe_cmpR op_eq (pv 0) (pv 1) (nomark _)))))))
      pss_nil)
      (pss_one (ps_ret (pe_and (pe_cmpR op_eq (pe_callB (call_isiKK (K := K)) (by rfl) T.b.isinstance (by decide +kernel) (pa_cons (pv 0) (pa_cons (pe_bltn (by rfl) T.b.int_ (by decide +kernel) (v := .ty "int") rfl) pa_nil))) (pe_callB (call_isiKK (K := K)) (by rfl) T.b.isinstance (by decide +kernel) (pa_cons (pv 1) (pa_cons (pe_bltn (by rfl) T.b.int_ (by decide +kernel) (v := .ty "int") rfl) pa_nil))) (nomark _)) (pe_one (pe_cmpR op_eq (pv 0) (pv 1) (nomark _))))))))), ?_⟩
    have ret : ∀ {te : TE} {D : Ends} {G1 H1 : Hp}, D.rt = Q → Gr [] G H G1 H1 → EvD te [some v0, some v1, none] G1 H1 (.bool true) → tRet te D [some v0, some v1, none] H1 := fun {te D G1 H1} hD g1 he => by
      subst hD
      exact s_ret he g1.s fun v G2 H2 g2 hv => k v G2 H2 (g1.trans g2) hv
    have g0 : Gr [] G H G H := .refl s0
    cases d with
    | none =>
      refine q_when (b := false) (evt_is (et_B (ev_isiT2 (ev_var rfl h_due_here) (by walk_at "kit") (by walk_at "kit"))) rfl) s0 (fun hb => by cases hb) (fun _ G1 H1 g1 => ?_)
      have h_found := h_found.mono g1.g; have h_due_here := h_due_here.mono g1.g
      refine q_when (b := true) (evt_is (et_test (ev_op (ev_var rfl h_due_here) ev_non rd_isN)) rfl) g1.s (fun _ G2 H2 g2 => ?_) (fun hb => by cases hb)
      have h_found := h_found.mono g2.g
      exact ret rfl (g1.trans g2) (ev_op (ev_var rfl h_found) ev_non rd_isN)
    | bool b =>
      refine q_when (b := false) (evt_is (et_B (ev_isiT2 (ev_var rfl h_due_here) (by walk_at "kit") (by walk_at "kit"))) rfl) s0 (fun hb => by cases hb) (fun _ G1 H1 g1 => ?_)
      have h_found := h_found.mono g1.g; have h_due_here := h_due_here.mono g1.g
      refine q_when (b := false) (evt_is (et_test (ev_op (ev_var rfl h_due_here) ev_non rd_isN)) rfl) g1.s (fun hb => by cases hb) (fun _ G2 H2 g2 => ?_)
      have h_found := h_found.mono g2.g; have h_due_here := h_due_here.mono g2.g
      refine q_when (b := true) (evt_is (et_or (et_B (ev_isi (ev_var rfl h_due_here) (by walk_at "kit"))) (fun _ => (et_B (ev_isi (ev_var rfl h_found) (by walk_at "kit"))))) rfl) g2.s (fun _ G3 H3 g3 => ?_) (fun hb => by cases hb)
      have h_found := h_found.mono g3.g; have h_due_here := h_due_here.mono g3.g
      exact ret rfl ((g1.trans g2).trans g3) (ev_is (ev_andV (ev_isi (ev_var rfl h_due_here) (by walk_at "kit")) (fun _ => (ev_andV (ev_isi (ev_var rfl h_found) (by walk_at "kit")) (fun _ => (ev_op (ev_var rfl h_found) (ev_var rfl h_due_here) (rd_eqX (by walk_at "eqx") (by walk_at "eqx"))))))) rfl)
    | int i =>
      refine q_when (b := false) (evt_is (et_B (ev_isiT2 (ev_var rfl h_due_here) (by walk_at "kit") (by walk_at "kit"))) rfl) s0 (fun hb => by cases hb) (fun _ G1 H1 g1 => ?_)
      have h_found := h_found.mono g1.g; have h_due_here := h_due_here.mono g1.g
      refine q_when (b := false) (evt_is (et_test (ev_op (ev_var rfl h_due_here) ev_non rd_isN)) rfl) g1.s (fun hb => by cases hb) (fun _ G2 H2 g2 => ?_)
      have h_found := h_found.mono g2.g; have h_due_here := h_due_here.mono g2.g
      refine q_when (b := false) (evt_is (et_or (et_B (ev_isi (ev_var rfl h_due_here) (by walk_at "kit"))) (fun _ => (et_B (ev_isi (ev_var rfl h_found) (by walk_at "kit"))))) rfl) g2.s (fun hb => by cases hb) (fun _ G3 H3 g3 => ?_)
      have h_found := h_found.mono g3.g; have h_due_here := h_due_here.mono g3.g
      exact ret rfl ((g1.trans g2).trans g3) (ev_is (ev_andV (ev_op (ev_isi (ev_var rfl h_found) (by walk_at "kit")) (ev_isi (ev_var rfl h_due_here) (by walk_at "kit")) rd_eqB) (fun _ => (ev_op (ev_var rfl h_found) (ev_var rfl h_due_here) (rd_eqX (by walk_at "eqx") (by walk_at "eqx"))))) rfl)
    | str z =>
      refine q_when (b := false) (evt_is (et_B (ev_isiT2 (ev_var rfl h_due_here) (by walk_at "kit") (by walk_at "kit"))) rfl) s0 (fun hb => by cases hb) (fun _ G1 H1 g1 => ?_)
      have h_found := h_found.mono g1.g; have h_due_here := h_due_here.mono g1.g
      refine q_when (b := false) (evt_is (et_test (ev_op (ev_var rfl h_due_here) ev_non rd_isN)) rfl) g1.s (fun hb => by cases hb) (fun _ G2 H2 g2 => ?_)
      have h_found := h_found.mono g2.g; have h_due_here := h_due_here.mono g2.g
      refine q_when (b := false) (evt_is (et_or (et_B (ev_isi (ev_var rfl h_due_here) (by walk_at "kit"))) (fun _ => (et_B (ev_isi (ev_var rfl h_found) (by walk_at "kit"))))) rfl) g2.s (fun hb => by cases hb) (fun _ G3 H3 g3 => ?_)
      have h_found := h_found.mono g3.g; have h_due_here := h_due_here.mono g3.g
      exact ret rfl ((g1.trans g2).trans g3) (ev_is (ev_andV (ev_op (ev_isi (ev_var rfl h_found) (by walk_at "kit")) (ev_isi (ev_var rfl h_due_here) (by walk_at "kit")) rd_eqB) (fun _ => (ev_op (ev_var rfl h_found) (ev_var rfl h_due_here) (rd_eqX (by walk_at "eqx") (by walk_at "eqx"))))) rfl)
    | list ds =>
      unfold dep at hdep
      obtain ⟨m, rfl⟩ : ∃ m, n = m + 1 := ⟨n - 1, by omega⟩
      unfold good at hgood
      rw [Bool.and_eq_true] at hgood
      obtain ⟨hl, hg⟩ := hgood
      have hl := of_decide_eq_true hl
      refine q_when (b := true) (evt_is (et_B (ev_isiT2 (ev_var rfl h_due_here) (by walk_at "kit") (by walk_at "kit"))) rfl) s0 (fun _ G1 H1 g1 => ?_) (fun hb => by cases hb)
      have h_found := h_found.mono g1.g; have h_due_here := h_due_here.mono g1.g
      refine q_when (b := false) (evt_is (et_or (et_test (ev_op (ev_isi (ev_var rfl h_due_here) (by walk_at "kit")) (ev_isi (ev_var rfl h_found) (by walk_at "kit")) rd_neB)) (fun _ => (et_test (ev_op (ev_isi (ev_var rfl h_due_here) (by walk_at "kit")) (ev_isi (ev_var rfl h_found) (by walk_at "kit")) rd_neB)))) rfl) g1.s (fun hb => by cases hb) (fun _ G2 H2 g2 => ?_)
      have h_found := h_found.mono g2.g; have h_due_here := h_due_here.mono g2.g
      have hcall : ∀ i : Nat, (i : Int) < ((ds.length : Nat) : Int) → dep (ds.getD i .none) ≤ m ∧ good (ds.getD i .none) = true := fun i hi => by
        have hm := getD_mem (show i < ds.length by omega)
        exact ⟨Nat.le_trans (dep_le hm) (by omega), good_of hg hm⟩
      exact ret rfl (g1.trans g2) (ev_is (ev_andV (ev_op (ev_cb (ea_cons (ev_var rfl h_found) ea_nil) cd_lenL) (ev_cb (ea_cons (ev_var rfl h_due_here) ea_nil) cd_lenL) rd_eqI)
        (fun _ => ev_cb (ea_cons (ev_lcR (fun _ => true) (fun _ => .bool true) (ea_cons (ev_cb (ea_cons (ev_var rfl h_due_here) ea_nil) cd_lenL) ea_nil) (by omega) (fun _ => rfl) (fun i hi => et_yes)
          (fun i hi hf => ev_call (ds.getD i .none) (ea_cons (ev_op (ev_var rfl h_found) (ev_var rfl (.int _)) (rd_ixanyL (atI_getD (by omega)))) (ea_cons (ev_op (ev_var rfl h_due_here) (ev_var rfl (.int _)) (rd_ixanyL (atI_getD (by omega)))) ea_nil)) (hcall i hi))).dat ea_nil) (cd_all' (given_true _))))
        (by rw [all_rep, decide_eq_true rfl]; rfl))
    | tuple ds =>
      unfold dep at hdep
      obtain ⟨m, rfl⟩ : ∃ m, n = m + 1 := ⟨n - 1, by omega⟩
      unfold good at hgood
      rw [Bool.and_eq_true] at hgood
      obtain ⟨hl, hg⟩ := hgood
      have hl := of_decide_eq_true hl
      refine q_when (b := true) (evt_is (et_B (ev_isiT2 (ev_var rfl h_due_here) (by walk_at "kit") (by walk_at "kit"))) rfl) s0 (fun _ G1 H1 g1 => ?_) (fun hb => by cases hb)
      have h_found := h_found.mono g1.g; have h_due_here := h_due_here.mono g1.g
      refine q_when (b := false) (evt_is (et_or (et_test (ev_op (ev_isi (ev_var rfl h_due_here) (by walk_at "kit")) (ev_isi (ev_var rfl h_found) (by walk_at "kit")) rd_neB)) (fun _ => (et_test (ev_op (ev_isi (ev_var rfl h_due_here) (by walk_at "kit")) (ev_isi (ev_var rfl h_found) (by walk_at "kit")) rd_neB)))) rfl) g1.s (fun hb => by cases hb) (fun _ G2 H2 g2 => ?_)
      have h_found := h_found.mono g2.g; have h_due_here := h_due_here.mono g2.g
      have hcall : ∀ i : Nat, (i : Int) < ((ds.length : Nat) : Int) → dep (ds.getD i .none) ≤ m ∧ good (ds.getD i .none) = true := fun i hi => by
        have hm := getD_mem (show i < ds.length by omega)
        exact ⟨Nat.le_trans (dep_le hm) (by omega), good_of hg hm⟩
      exact ret rfl (g1.trans g2) (ev_is (ev_andV (ev_op (ev_cb (ea_cons (ev_var rfl h_found) ea_nil) cd_lenT) (ev_cb (ea_cons (ev_var rfl h_due_here) ea_nil) cd_lenT) rd_eqI)
        (fun _ => ev_cb (ea_cons (ev_lcR (fun _ => true) (fun _ => .bool true) (ea_cons (ev_cb (ea_cons (ev_var rfl h_due_here) ea_nil) cd_lenT) ea_nil) (by omega) (fun _ => rfl) (fun i hi => et_yes)
          (fun i hi hf => ev_call (ds.getD i .none) (ea_cons (ev_op (ev_var rfl h_found) (ev_var rfl (.int _)) (rd_ixanyT (atI_getD (by omega)))) (ea_cons (ev_op (ev_var rfl h_due_here) (ev_var rfl (.int _)) (rd_ixanyT (atI_getD (by omega)))) ea_nil)) (hcall i hi))).dat ea_nil) (cd_all' (given_true _))))
        (by rw [all_rep, decide_eq_true rfl]; rfl))
    | dict _ => unfold good at hgood; cases hgood
theorem ok_Lsame (T : Txt K mg A) : ∀ n : Nat, FnOk P w K mg base CX0 n A.a_Lsame A.d_Lsame ["_law_found", "_law_due_here"] (spSame' n)
  | 0 => ⟨fun _ _ _ _ h => h.elim, fun _ _ _ _ _ _ _ _ _ _ _ _ _ h => h.elim⟩
  | n + 1 => step_Lsame T n (ok_Lsame T n)

/-! ### sorted names are told alike -/
theorem rises_pw : ∀ (l : List Str) (p : Str), PyProof.Rows.risingS p l = true → (∀ y ∈ l, p.cps.toList ≤ y.cps.toList) ∧ l.Pairwise (fun a b => a.cps.toList ≤ b.cps.toList)
  | [], _, _ => ⟨fun _ h => (by cases h), List.Pairwise.nil⟩
  | x :: r, p, h => by
    unfold PyProof.Rows.risingS at h
    rw [Bool.and_eq_true] at h
    obtain ⟨h1, h2⟩ := h
    rw [PyProof.Rows.ltCps_eq] at h1
    have h3 : p.cps.toList ≤ x.cps.toList := by
      have : ¬ x.cps.toList < p.cps.toList := by simpa using h1
      exact List.not_lt.mp this
    obtain ⟨a, b⟩ := rises_pw r x h2
    refine ⟨fun y hy => ?_, List.Pairwise.cons a b⟩
    rcases List.mem_cons.mp hy with e | hy
    · subst e; exact h3
    · exact List.le_trans h3 (a y hy)
theorem sorted_pw {l : List Str} (h : PyProof.Rows.sortedS l = true) : l.Pairwise (fun a b => a.cps.toList ≤ b.cps.toList) := by
  cases l with
  | nil => exact List.Pairwise.nil
  | cons x r => obtain ⟨a, b⟩ := rises_pw r x h; exact List.Pairwise.cons a b
theorem sorted_one {l k m : List Str} (h1 : l.Perm m) (h2 : k.Perm m) (s1 : PyProof.Rows.sortedS l = true) (s2 : PyProof.Rows.sortedS k = true) : l = k :=
  List.Perm.eq_of_pairwise (le := fun a b : Str => a.cps.toList ≤ b.cps.toList) (fun a b _ _ h h' => by
    have e := List.le_antisymm h h'
    obtain ⟨⟨x⟩⟩ := a
    obtain ⟨⟨y⟩⟩ := b
    simp only at e
    rw [e]) (sorted_pw s1) (sorted_pw s2) (h1.trans h2.symm)
section
variable {σ : L2.St} {G H : Hp} {te : TE} {i j : Nat} {e p d : Addr} {m : Mp} {K : PySem.W.Frag} {mg : Str → Option Value} {B : Bd}
theorem dxs_strs {G : Hp} : ∀ zs : List Str, Dxs G (zs.map V.str) (zs.map PyData.str)
  | [] => .nil
  | z :: r => .cons (.str z) (dxs_strs r)
theorem ev_sortedD {ys : List Str} (hv : σ[i]? = some (some (.ref e))) (he : Rd H e (.dK (kvM m))) (hl : m.length < 64) (hu : ∀ zs, zs.Perm (nms m) → PyProof.Rows.sortedS zs = true → zs = ys) :
    EvD (tCB (fun xs H Q => ∃ (a : Addr) (kvs : List (Key × V)) (ks : List Str), xs = [.ref a] ∧ Rd H a (.dK kvs) ∧ kvs.map (·.1) = ks.map Sum.inr ∧ ks.length < 64 ∧
    ∀ ys p, ys.Perm ks → PyProof.Rows.sortedS ys = true → H p = none → Q (.ref p) (upd H p (.lst (ys.map V.str)))) (tCons (tVar i) tNil)) σ G H (.list (ys.map .str)) := fun G1 H1 a Q q =>
  ⟨_, hv, e, kvM m, nms m, rfl, rd_gr a he, by unfold kvM nms; rw [List.map_map, List.map_map]; rfl, by unfold nms; rw [List.length_map]; exact hl, fun zs l hp hs h0 => by
    rw [hu zs hp hs]
    exact q _ _ _ ((Gr.refl a.s).data h0) (.lst upd_same (dxs_strs ys))⟩
theorem ev_total (U : Tx7 K mg B) {E : XK} (hv : σ[i]? = some (some (.ref p))) (hp : PuAt B.C H p d m) : EvD (tMeth B.C "total" (spTotal B) [] E (tVar i) tNil) σ G H (.int (tot m)) := fun G1 H1 a Q q => by
  have hp := hp.sb (sb_of a)
  obtain ⟨dx, hi⟩ := hp.1
  exact ⟨_, hv, p, dx, _, rfl, hi, no_meth (by decide +kernel), p, d, m, rfl, hp, q _ G1 H1 (.refl a.s) (.int _)⟩
theorem ev_coins (U : Tx7 K mg B) {E : XK} {n : Str} {c : Int} (hv : σ[i]? = some (some (.ref p))) (hp : PuAt B.C H p d m) (h : EvD te σ G H (.str n)) (hc : get m n = some c) : EvD (tMeth B.C "coins" (spCoins B) [] E (tVar i) (tCons te tNil)) σ G H (.int c) := fun G1 H1 a Q q => by
  obtain ⟨dx, hi⟩ := hp.1
  refine ⟨_, hv, p, dx, _, rfl, a.h _ _ (by simp) hi, no_meth (by decide +kernel), h G1 H1 a _ fun v G2 H2 g x => ?_⟩
  rw [x.str_eq]
  refine ⟨p, d, m, n, rfl, hp.sb (sb_of (a.trans g)), fun hn => (by rw [hn] at hc; cases hc), fun c' hc' => ?_⟩
  rw [hc] at hc'
  cases hc'
  exact q _ G2 H2 g (.int _)
theorem ev_listVals (hv : σ[i]? = some (some (.ref e))) (he : Rd H e (.dK (kvM m))) : EvM (tListVals (tVar i)) σ G H ((m.map fun q : Str × Int => q.2).map .int) := fun G1 H1 a Q q =>
  ⟨_, hv, e, kvM m, rfl, rd_gr a he, fun l h0 => q l _ G1 _ ((Gr.refl a.s).own h0) h0 (a.s.none h0) upd_same (by
    have e1 : (kvM m).map (·.2) = (m.map fun q : Str × Int => q.2).map V.int := by unfold kvM; rw [List.map_map, List.map_map]; rfl
    rw [e1]
    exact Dxs.ints _)⟩
/-- what stands while the dict at e is locked -/
theorem Gr.lock {G G1 H H1 : Hp} {u u' : HO} (g : Gr [] G H G1 H1) (hu : H e = some u) (hn : G e = none) : Gr [] G (upd H e u') G1 (upd H1 e u') :=
  ⟨g.g, g.s.mut (g.n _ _ hu hn), fun a o m q => by
    by_cases h : a = e
    · subst h; rw [upd_same] at q ⊢; exact q
    · rw [upd_ne h] at q ⊢; exact g.h a o m q,
   fun a o q => by
    by_cases h : a = e
    · subst h; exact ⟨_, upd_same⟩
    · rw [upd_ne h] at q
      obtain ⟨o', q'⟩ := g.t a o q
      exact ⟨o', (upd_ne h).trans q'⟩,
   fun a o q q0 => by
    by_cases h : a = e
    · subst h; exact g.n _ _ hu q0
    · rw [upd_ne h] at q; exact g.n a o q q0⟩
theorem ev_keys {vs : List Nat} (v : Nat → PyData) (hv : σ[i]? = some (some (.ref e))) (he : H e = some (.dK (kvM m))) (hn : G e = none) (hz : m.length ≤ 40000) (hw : ∀ x, wipe ((wipe σ vs).set j (some x)) vs = wipe σ vs)
    (hb : ∀ (k : Nat) (n : Str) (c : Int) od, m[k]? = some (n, c) → EvD te ((wipe σ vs).set j (some (.str n))) G (upd H e (.frz od (.dK (kvM m)))) (v k)) :
    EvM (tLockE (tLc (iKeys (tVar i)) (gName j) tYes te vs)) σ G H (given m.length (fun _ => true) v) := fun G1 H1 a Q q => by
  have he1 := a.h e _ (by simp) he
  have hn1 := a.n e _ he hn
  refine ⟨e, _, he1, True.intro, fun od => ?_⟩
  have g0 : Gr [] G (upd H e (.frz od (.dK (kvM m)))) G1 (upd H1 e (.frz od (.dK (kvM m)))) := Gr.lock a he hn
  refine ⟨_, hv, e, od, rfl, Or.inl ⟨kvM m, upd_same, fun D hD => ?_⟩⟩
  refine lc_it (walk_keys (d := e) (o := od) (kvs := kvM m)) (Cw G1 (upd H1 e (.frz od (.dK (kvM m)))) (fun _ => true) v D) ⟨G1, [], (Gr.refl g0.s).own hD, g0.s.none hD, upd_same, by exact .nil⟩ (fun k H' _ w => ?_) (fun k H' x H'' hk w y => ?_) (fun H' w => ?_)
  · obtain ⟨G', xs, gg, _⟩ := w
    exact gg.h e _ (by simp) upd_same
  · obtain ⟨rfl, kk, vv, h1, rfl⟩ := y
    obtain ⟨⟨n, c⟩, h2, h3⟩ : ∃ nc : Str × Int, m[k]? = some nc ∧ kk = Sum.inr nc.1 := by
      unfold kvM at h1
      rw [List.getElem?_map] at h1
      cases q : m[k]? with
      | none => rw [q] at h1; cases h1
      | some nc =>
        rw [q] at h1
        have := Option.some.inj h1
        exact ⟨nc, rfl, (congrArg Prod.fst this).symm⟩
    subst h3
    have hkm : k < m.length := (List.getElem?_eq_some_iff.mp h2).1
    refine ⟨hw _, ?_⟩
    exact cw_turn hD w (by omega) et_yes (fun _ => (hb k n c od h2).mono g0)
  · rw [len_kvM] at w
    obtain ⟨G', xs, k1, k2, k3, k4⟩ := w
    have hf : H' e = some (.frz od (.dK (kvM m))) := k1.h e _ (by simp) upd_same
    have hD1 : H1 D = none := by
      by_cases h : D = e
      · subst h; rw [upd_same] at hD; cases hD
      · rw [upd_ne h] at hD; exact hD
    have hne : D ≠ e := fun h => by subst h; rw [he1] at hD1; cases hD1
    have hGe : G' e = none := k1.n e _ upd_same hn1
    refine ⟨hf, q D xs G' _ ⟨k1.g, k1.s.mut hGe, fun x o mm hx => ?_, fun x o hx => ?_, fun x o hx h0 => ?_⟩ hD1 k2 ((upd_ne hne).trans k3) k4⟩
    · by_cases h : x = e
      · subst h; rw [he1] at hx; cases hx; exact upd_same
      · rw [upd_ne h]; exact k1.h x o mm ((upd_ne h).trans hx)
    · by_cases h : x = e
      · subst h; exact ⟨_, upd_same⟩
      · obtain ⟨o', h'⟩ := k1.t x o ((upd_ne h).trans hx)
        exact ⟨o', (upd_ne h).trans h'⟩
    · by_cases h : x = e
      · subst h; exact hGe
      · exact k1.n x o ((upd_ne h).trans hx) h0
end
theorem ev_same {σ : L2.St} {G H : Hp} {n : Nat} {d : PyData} {t : TA} {E : XK} (h : EvA t σ G H [d, d]) (hp : dep d ≤ n ∧ good d = true) : EvD (tCall (spSame n) [] E t) σ G H (.bool true) := ev_call d h hp
theorem get_mem {m : Mp} {k : Nat} {n : Str} {c : Int} (h : m[k]? = some (n, c)) : ∃ c', get m n = some c' := by
  induction m generalizing k with
  | nil => cases h
  | cons q r ih =>
    unfold get
    by_cases e : q.1 = n
    · exact ⟨_, if_pos e⟩
    · rw [if_neg e]
      cases k with
      | zero =>
        have := Option.some.inj h
        rw [this] at e; exact (e rfl).elim
      | succ k => exact ih h
theorem strs_good (zs : List Str) : deps (zs.map PyData.str) = 0 ∧ goods (zs.map PyData.str) = true := by
  induction zs with
  | nil => exact ⟨rfl, rfl⟩
  | cons a u ih =>
    refine ⟨?_, ?_⟩
    · show deps (PyData.str a :: u.map PyData.str) = 0
      unfold deps
      rw [ih.1]; rfl
    · show goods (PyData.str a :: u.map PyData.str) = true
      unfold goods
      rw [ih.2]; rfl
theorem strs_ok {zs : List Str} (h : zs.length ≤ 40000) : dep (.list (zs.map PyData.str)) ≤ 1 ∧ good (.list (zs.map PyData.str)) = true := by
  obtain ⟨a, b⟩ := strs_good zs
  refine ⟨by unfold dep; omega, ?_⟩
  unfold good
  rw [b, decide_eq_true (show (zs.map PyData.str).length ≤ 40000 by rw [List.length_map]; exact h)]; rfl
abbrev spRight (B : Bd) : Sp := fun vs H Q _ => ∃ (p d e : Addr) (m : Mp), vs = [.ref p, .ref e] ∧ PuAt B.C H p d m ∧ H e = some (.dK (kvM m)) ∧ e ≠ d ∧ e ≠ p ∧ m.length < 64 ∧ ∀ H', Sb H H' → Q (.bl true) H'
theorem ok_Lright {B : Bd} (T : Txt K mg A) (U : Tx7 K mg B) : FnOk P w K mg base CX0 6 A.a_Lright A.d_Lright ["_law_purses", "_law_held"] (spRight B) := by
  have G_coins := ok_coins (P := P) (w := w) (base := base) T U
  have G_names := ok_names (P := P) (w := w) (base := base) T U
  have G_total := ok_total (P := P) (w := w) (base := base) T U
  have G_Lsame : FnOk P w K mg base CX0 2 A.a_Lsame A.d_Lsame ["_law_found", "_law_due_here"] (spSame 1) := ok_Lsame T 2
  refine T.F_Lright.ok sc_Lright (fun vs H Q E h => ?_) (fun cdv A' outer s H vs Q E hr h => ?_)
  · obtain ⟨_, _, _, _, rfl, _⟩ := h; rfl
  · obtain ⟨p, d, e, m, rfl, hp, he, hed, hep, hl, k⟩ := h
    refine ⟨_, pss_cons (ps_set (i := 2) sc_Lright.nd rfl (Or.inl rfl) (pe_meth0 (pv 0) U.cl U.m_Mallnames G_names (hr.mono (by omega)) U.b_Mallnames .nil pass0))
      (pss_cons (ps_if (PW.pt (pw_or (pt_not (pt_val (pe_call G_Lsame (hr.mono (by omega)) (by rfl) T.m_Lsame T.F_Lsame.kp T.b_Lsame .nil pass0 (pa_cons (pv 2) (pa_cons (pe_callB (call_sortedD rfl) (by rfl) T.b.sorted (by decide +kernel) (pa_cons (pv 1) pa_nil)) pa_nil)))))
          (pw_or1 (pt_not (pt_val (pe_call G_Lsame (hr.mono (by omega)) (by rfl) T.m_Lsame T.F_Lsame.kp T.b_Lsame .nil pass0 (pa_cons (pe_meth0 (pv 0) U.cl U.m_Mtotal G_total (hr.mono (by omega)) U.b_Mtotal .nil pass0) (pa_cons (pe_callB (cr_sumK (K := K) rfl) (by rfl) T.b.sum (by decide +kernel) (pa_cons (pe_listVals rfl (by rfl) T.b.list (pv 1)) pa_nil)) pa_nil)))))))) (pss_one (ps_ret pe_bl)) pss_nil)
      (pss_cons (ps_expr (pe_bm PySem.F.plainAttrs_list PySem.F.slot_list_append PySem.F.type_list_append mt_append (pv 2) (pa_cons pe_str pa_nil)))
      (pss_one (ps_ret (pe_callB (cr_allK (K := K) rfl) (by rfl) T.b.all (by decide +kernel) (pa_cons (pe_lock (pe_lc (own := [("_law_name_here", 3)]) (g := gName 3) rfl sc_Lright.nd (pi_keys (pv 1)) (blkOk_by (own := [("_law_name_here", 3)]) (N := N_Lright) (sc := defScope s_Lright) (by decide +kernel))
        (fun _ _ _ _ _ => pg_name (i := 3) sc_Lright.nd rfl (Or.inl rfl)) (fun _ _ _ _ _ => pts_nil)
        (fun _ _ _ _ _ => pe_call G_Lsame (hr.mono (by omega)) (by rfl) T.m_Lsame T.F_Lsame.kp T.b_Lsame .nil pass0 (pa_cons (pe_meth (pv 0) U.cl U.m_Mcoins G_coins (hr.mono (by omega)) U.b_Mcoins .nil passL (by exact (pa_cons (pv 3) pa_nil))) (pa_cons (pe_dget (hu1 hr) (pv 1) (pv 3) (fun _ _ => rfl)) pa_nil))))) pa_nil)))))), ?_⟩
    obtain ⟨dx, hi⟩ := hp.1
    refine ⟨_, rfl, p, dx, _, rfl, hi, no_meth (by decide +kernel), p, d, m, rfl, hp, hl, fun ys l hperm hsort hl0 => ?_⟩
    have s1 : Sb H (upd H l (.lst (ys.map V.str))) := Sb.new hl0
    generalize hH1 : upd H l (.lst (ys.map V.str)) = H1 at s1
    have hl1 : H1 l = some (.lst (ys.map V.str)) := by rw [← hH1]; exact upd_same
    have hp1 := hp.sb s1
    have he1 := s1 _ _ he
    have hyl : ys.length = m.length := by rw [hperm.length_eq]; unfold nms; rw [List.length_map]
    let G1 : Hp := upd (fun _ => none) l (.lst (ys.map V.str))
    have hs1 : Sb G1 H1 := fun x o hx => by
      by_cases h : x = l
      · subst h
        have hx : (upd (fun _ => none) x (.lst (ys.map V.str)) : Hp) x = some o := hx
        rw [upd_same] at hx; cases hx; exact hl1
      · have hx : (upd (fun _ => none) l (.lst (ys.map V.str)) : Hp) x = some o := hx
        rw [upd_ne h] at hx; cases hx
    have hd1 : Dx G1 (.ref l) (.list (ys.map .str)) := .lst upd_same (dxs_strs ys)
    have pre1 := strs_ok (zs := ys) (by omega)
    have pre2 : dep (PyData.int (tot m)) ≤ 1 ∧ good (PyData.int (tot m)) = true := ⟨Nat.zero_le _, rfl⟩
    refine q_when (G := G1) (b := false) (evt_is (b := !true || !true) (et_or (b := !true) (c := !true) (et_not (et_B (ev_same (d := PyData.list (ys.map .str)) (ea_cons (ev_var rfl hd1) (ea_cons (ev_sortedD rfl (Or.inl he1) hl fun zs h1 h2 => sorted_one h1 hperm h2 hsort) ea_nil)) pre1)))
      (fun _ => et_not (et_B (ev_same (d := PyData.int (tot m)) (ea_cons (ev_total U rfl hp1) (ea_cons (ev_cb (ea_cons (ev_listVals rfl (Or.inl he1)).dat ea_nil) cd_sum) ea_nil)) pre2)))) rfl) hs1 (fun hb => by cases hb) (fun _ G2 H2 g2 => ?_)
    have s2 := sb_of g2
    refine q_app (G := fun _ => none) rfl (s2 _ _ hl1) rfl ev_str emp_sb (by rw [List.length_map]; omega) fun v G3 H3 g3 hv _ _ => ?_
    have s3 := sb_of g3
    have nel : ∀ {x : Addr} {o : HO}, H x = some o → x ≠ l := fun hx h => by subst h; rw [hl0] at hx; cases hx
    have s4 : Sb H (upd H3 l (.lst (ys.map V.str ++ [v]))) := fun x o hx => (upd_ne (nel hx)).trans (s3 _ _ (s2 _ _ (s1 _ _ hx)))
    have hp4 := hp.sb s4
    have he4 := s4 _ _ he
    refine s_ret (G := fun _ => none) (ev_is (ev_cb (ea_cons (ev_keys (fun _ => .bool true) rfl he4 rfl (by omega) (fun _ => rfl) (fun kk n c od hk => ?_)).dat ea_nil) (cd_all' (given_true _))) (by rw [all_rep])) emp_sb fun v G5 H5 g5 hv => ?_
    · obtain ⟨c', hc'⟩ := get_mem hk
      have hpf : PuAt B.C (upd (upd H3 l (.lst (ys.map V.str ++ [v]))) e (.frz od (.dK (kvM m)))) p d m := by
        obtain ⟨⟨dx, a1⟩, a2, a3⟩ := hp4
        exact ⟨⟨dx, (upd_ne (Ne.symm hep)).trans a1⟩, (upd_ne (Ne.symm hed)).trans a2, a3⟩
      exact ev_call (PyData.int c') (ea_cons (ev_coins U rfl hpf (ev_var rfl (.str n)) hc') (ea_cons (ev_dget rfl (Or.inr ⟨od, upd_same⟩) (ev_var rfl (.str n)) hc') ea_nil)) ⟨Nat.zero_le _, rfl⟩
    · obtain rfl := hv.bl_eq
      exact k H5 (s4.trans (sb_of g5))

structure FeedOk (fs : List Int) : Prop where
  lo : 270 ≤ fs.length
  hi : fs.length ≤ 400
  el : ∀ x ∈ fs, 0 ≤ x ∧ x < 55440
def spFeed (K : PySem.W.Frag) : Sp := fun vs H Q _ => ∃ (G : Hp) (a : Addr) (ns : List Int), vs = [.ref a] ∧ Sb G H ∧ SqL K H a (ns.map V.int) ∧ ns.length ≤ 63 ∧
  ∀ p (fs : List Int) G' H', FeedOk fs → Gr [] G H G' H' → H p = none → G' p = none → H' p = some (.lst (fs.map V.int)) → Q (.ref p) H'
theorem ints_app {fs : List Int} {z : Int} : fs.map V.int ++ [V.int z] = (fs ++ [z]).map V.int := by simp
theorem el_app {fs : List Int} {z : Int} (h : ∀ x ∈ fs, 0 ≤ x ∧ x < 55440) (hz : 0 ≤ z ∧ z < 55440) : ∀ x ∈ fs ++ [z], 0 ≤ x ∧ x < 55440 := fun x hx => by
  rcases List.mem_append.mp hx with h1 | h1
  · exact h x h1
  · rw [List.mem_singleton.mp h1]; exact hz
theorem mod_ok (z : Int) : 0 ≤ z % 55440 ∧ z % 55440 < 55440 := ⟨Int.emod_nonneg _ (by decide), Int.emod_lt_of_pos _ (by decide)⟩
theorem abs_nn (z : Int) : 0 ≤ (if z < 0 then -z else z) := by split <;> omega
theorem ok_Lfeed (T : Txt K mg A) : FnOk P w K mg base CX0 1 A.a_Lfeed A.d_Lfeed ["_law_script"] (spFeed K) := by
  refine T.F_Lfeed.ok sc_Lfeed (fun vs H Q E h => ?_) (fun cdv A' outer s H vs Q E hr h => ?_)
  · obtain ⟨G, a, ns, rfl, _⟩ := h
    rfl
  · obtain ⟨G, a, ns, rfl, s0, hS, hlen, k⟩ := h
    refine ⟨_, (pss_cons (ps_set (i := 1) sc_Lfeed.nd rfl (Or.inl rfl) (pe_lst pa_nil))
      (pss_cons (ps_for PassesOwn.never rfl (pi_list (pv 0)) (pg_name (i := 2) sc_Lfeed.nd rfl (Or.inl rfl))
      (pss_one (ps_if (pt_cmpR op_lt (pe_callB (call_lenK (K := K)) (by rfl) T.b.len (by decide +kernel) (pa_cons (pv 1) pa_nil)) pe_int (nomark _))
      (pss_cons (ps_set (i := 3) sc_Lfeed.nd rfl (Or.inl rfl) (pe_callB call_abs (by rfl) T.b.abs (by decide +kernel) (pa_cons (pv 2) pa_nil)))
      (pss_one (ps_if (pt_cmpR op_ge (pv 3) (pe_op op_pow pe_int pe_int) (nomark _))
      (pss_one (ps_for PassesOwn.never rfl (pi_range1 (by rfl) T.b.range (pa_cons pe_int pa_nil)) (pg_name (i := 4) sc_Lfeed.nd rfl (Or.inl rfl))
      (pss_one (ps_if (pt_cmpR op_gt (pv 3) pe_int (nomark _))
      (pss_cons (ps_expr (pe_bm PySem.F.plainAttrs_list PySem.F.slot_list_append PySem.F.type_list_append mt_append (pv 1) (pa_cons (pe_op op_mod (pv 3) pe_int) pa_nil)))
      (pss_one (ps_set (i := 3) sc_Lfeed.nd rfl (Or.inl rfl) (pe_op op_fdivW (pv 3) pe_int))))
      pss_nil))))
      (pss_cons (ps_set (i := 5) sc_Lfeed.nd rfl (Or.inl rfl) (pe_op op_mod (pe_op op_add (pe_op op_mul (pe_op op_add (pe_op op_mul pe_int (pv 3)) (pe_callTy call_int1 (by rfl) T.b.int_ (by decide +kernel) (pa_cons (pe_cmpR op_lt (pv 2) pe_int (nomark _)) pa_nil))) pe_int) pe_int) pe_int))
      (pss_one (ps_for PassesOwn.never rfl (pi_range1 (by rfl) T.b.range (pa_cons pe_int pa_nil)) (pg_name (i := 4) sc_Lfeed.nd rfl (Or.inl rfl))
      (pss_cons (ps_set (i := 5) sc_Lfeed.nd rfl (Or.inl rfl) (pe_op op_mod (pe_op op_add (pe_op op_mul (pv 5) pe_int) pe_int) pe_int))
      (pss_one (ps_expr (pe_bm PySem.F.plainAttrs_list PySem.F.slot_list_append PySem.F.type_list_append mt_append (pv 1) (pa_cons (pe_op op_mod (pe_op op_fdiv (pv 5) pe_int) pe_int) pa_nil)))))))))))
      pss_nil)))
      (pss_cons (ps_set (i := 5) sc_Lfeed.nd rfl (Or.inl rfl) (pe_op op_add (pe_op op_add pe_int (pe_callB (call_lenK (K := K)) (by rfl) T.b.len (by decide +kernel) (pa_cons (pv 1) pa_nil))) (pe_callB (cr_sumK (K := K) rfl) (by rfl) T.b.sum (by decide +kernel) (pa_cons (pv 1) pa_nil))))
      (pss_cons (ps_for PassesOwn.never rfl (pi_range1 (by rfl) T.b.range (pa_cons pe_int pa_nil)) (pg_name (i := 4) sc_Lfeed.nd rfl (Or.inl rfl))
      (pss_one (ps_if (pt_cmpR op_lt (pe_callB (call_lenK (K := K)) (by rfl) T.b.len (by decide +kernel) (pa_cons (pv 1) pa_nil)) pe_int (nomark _))
      (pss_cons (ps_set (i := 5) sc_Lfeed.nd rfl (Or.inl rfl) (pe_op op_mod (pe_op op_add (pe_op op_mul (pv 5) pe_int) pe_int) pe_int))
      (pss_one (ps_expr (pe_bm PySem.F.plainAttrs_list PySem.F.slot_list_append PySem.F.type_list_append mt_append (pv 1) (pa_cons (pe_op op_mod (pe_op op_fdiv (pv 5) pe_int) pe_int) pa_nil)))))
      pss_nil)))
      (pss_one (ps_ret (pv 1))))))), ?_⟩
    refine q_asgM (ev_lst ea_nil (by walk_at "arith")) s0 fun l xs G1 H1 g1 h0 hn hl hx => ?_
    cases hx
    have hS1 : SqL K H1 a (ns.map V.int) := sq_gr g1 (by simp) hS
    have o1 : Ow G H G1 H1 l ([] : List V) := Ow.mk0 g1 hl hn
    refine ⟨_, rfl, a, rfl, ⟨_, hS1⟩, for_list (K := K) (a := a) (xs := ns.map V.int) (fun i σ' H' => ∃ (fs : List Int) (v2 v3 v4 v5 : Option V) (G' : Hp), σ' = [some (.ref a), some (.ref l), v2, v3, v4, v5] ∧ Ow G H G' H' l (fs.map V.int) ∧ fs.length ≤ 329 ∧ ∀ x ∈ fs, 0 ≤ x ∧ x < 55440)
      ⟨[], none, none, none, none, G1, rfl, o1, by simp, by simp⟩ (fun i σ' H' _ p => ?_) (fun i x σ' H' hx p => ?_) (fun σ' H' p => ?_)⟩
    · obtain ⟨fs, v2, v3, v4, v5, G', rfl, o, _⟩ := p
      exact o.sq h0 hS
    · obtain ⟨fs, v2, v3, v4, v5, G', rfl, hl_feed_here, hf, he⟩ := p
      obtain ⟨z, rfl⟩ : ∃ z, x = V.int z := by
        rw [List.getElem?_map] at hx
        cases e : ns[i]? with
        | none => rw [e] at hx; cases hx
        | some u => rw [e] at hx; exact ⟨u, (Option.some.inj hx).symm⟩
      have h_cell : ∀ G, Dx G (.int z) (.int z) := fun _ => .int z
      refine s_if (et_test (ev_op (ev_lenO rfl hl_feed_here.hl) ev_int rd_lt)) hl_feed_here.s (fun hb G2 H2 g2 => ?_) (fun hb G2 H2 g2 => ?_)
      · have hb := of_decide_eq_true hb
        rw [List.length_map] at hb
        replace hl_feed_here := hl_feed_here.step g2
        refine q_asg ((fun h_cell => (ev_cb (ea_cons (ev_var rfl h_cell) ea_nil) cd_abs)) (h_cell _)) hl_feed_here.s fun v G3 H3 g3 hv => ?_
        obtain rfl := hv.int_eq
        replace hl_feed_here := hl_feed_here.step g3
        have hz0 := abs_nn z
        generalize (if z < 0 then -z else z) = y at hz0 ⊢
        have h_left : ∀ G, Dx G (.int y) (.int y) := fun _ => .int y
        refine s_if ((fun h_left => (et_test (ev_op (ev_var rfl h_left) (ev_op ev_int ev_int (rd_pow (by walk_at "arith"))) rd_ge))) (h_left _)) hl_feed_here.s (fun hy G4 H4 g4 => ?_) (fun hy G4 H4 g4 => ?_)
        · replace hl_feed_here := hl_feed_here.step g4
          refine s_forR [l] (fun n σ' G' H' => ∃ (gs : List Int) (y : Int) (v4 : Option V), σ' = [some (.ref a), some (.ref l), some (.int z), some (.int y), v4, v5] ∧ Ow G H G' H' l (gs.map V.int) ∧ gs.length ≤ fs.length + n ∧ ∀ x ∈ gs, 0 ≤ x ∧ x < 55440)
            (ea_cons ev_int ea_nil) (by omega) hl_feed_here.s (fun G5 H5 g5 => ⟨fs, y, v4, rfl, hl_feed_here.step g5, by omega, he⟩) (fun G5 H5 g5 n σ' G' H' hn2 gg p => ?_) (fun σ' G' H' gg p => ?_)
          · obtain ⟨gs, y, v4, rfl, hl_feed_here, hg, he⟩ := p
            have h_left : ∀ G, Dx G (.int y) (.int y) := fun _ => .int y
            refine s_if ((fun h_left => (et_test (ev_op (ev_var rfl h_left) ev_int rd_gt))) (h_left _)) hl_feed_here.s (fun hy G6 H6 g6 => ?_) (fun hy G6 H6 g6 => ?_)
            · replace hl_feed_here' := hl_feed_here.step g6
              refine q_app' hl_feed_here' rfl ((fun h_left => (ev_op (ev_var rfl h_left) ev_int (rd_mod (by walk_at "arith")))) (h_left _)) (by rw [List.length_map]; omega) fun v G7 H7 hv g7 o7 => ?_
              obtain rfl := hv.int_eq
              rw [ints_app] at o7 ⊢
              refine s_asg ((fun h_left => (ev_op (ev_var rfl h_left) ev_int (rd_fdivW (by walk_at "wide")))) (h_left _)) o7.s fun v G8 H8 g8 hv => ?_
              obtain rfl := hv.int_eq
              refine ⟨G8, ?_, _, _, _, rfl, o7.step g8, by rw [List.length_append, List.length_singleton]; omega, el_app he (mod_ok y)⟩
              exact ((((gg.trans g6.any).trans g7.any).write (Or.inl (by simp)) o7.hn)).trans g8.any
            · exact ⟨G6, gg.trans g6.any, gs, y, _, rfl, hl_feed_here.step g6, by omega, he⟩
          · obtain ⟨gs, y, v4, rfl, o, hg, he⟩ := p
            exact ⟨gs, _, _, _, _, G', rfl, o, by have : (60 : Int).toNat = 60 := rfl; omega, he⟩
        · replace hl_feed_here := hl_feed_here.step g4
          have hy := of_decide_eq_false hy
          have hy1 : y < 1000000000000000000 := by
            have e : ((10 : Int) ^ (18 : Int).toNat) = 1000000000000000000 := by decide
            rw [e] at hy; omega
          refine q_asg ((fun h_left h_cell => (ev_op (ev_op (ev_op (ev_op (ev_op ev_int (ev_var rfl h_left) (rd_mul (by walk_at "arith"))) (ev_cb (ea_cons (ev_op (ev_var rfl h_cell) ev_int rd_lt) ea_nil) cd_intB) rd_add) ev_int (rd_mul (by walk_at "arith"))) ev_int rd_add) ev_int (rd_mod (by walk_at "arith")))) (h_left _) (h_cell _)) hl_feed_here.s fun v G5 H5 g5 hv => ?_
          obtain rfl := hv.int_eq
          replace hl_feed_here := hl_feed_here.step g5
          have hs0 : ∀ u : Int, 0 ≤ u % 2147483629 ∧ u % 2147483629 < 2147483647 := fun u => ⟨by omega, by omega⟩
          have hs1 := hs0 ((2 * y + (if decide (z < 0) then 1 else 0)) * 69621 + 11)
          generalize ((2 * y + (if decide (z < 0) then 1 else 0)) * 69621 + 11) % 2147483629 = sd at hs1 ⊢
          refine s_forR [l] (fun n σ' G' H' => ∃ (gs : List Int) (sd : Int) (v4 : Option V), σ' = [some (.ref a), some (.ref l), some (.int z), some (.int y), v4, some (.int sd)] ∧ (0 ≤ sd ∧ sd < 2147483647) ∧ Ow G H G' H' l (gs.map V.int) ∧ gs.length ≤ fs.length + n ∧ ∀ x ∈ gs, 0 ≤ x ∧ x < 55440)
            (ea_cons ev_int ea_nil) (by omega) hl_feed_here.s (fun G6 H6 g6 => ⟨fs, sd, v4, rfl, hs1, hl_feed_here.step g6, by omega, he⟩) (fun G6 H6 g6 n σ' G' H' hn2 gg p => ?_) (fun σ' G' H' gg p => ?_)
          · obtain ⟨gs, sd, v4, rfl, hs1, hl_feed_here, hg, he⟩ := p
            have h_seed : ∀ G, Dx G (.int sd) (.int sd) := fun _ => .int sd
            refine q_asg ((fun h_seed => (ev_op (ev_op (ev_op (ev_var rfl h_seed) ev_int (rd_mul (by walk_at "arith"))) ev_int rd_add) ev_int (rd_mod (by walk_at "arith")))) (h_seed _)) hl_feed_here.s fun v G7 H7 g7 hv => ?_
            obtain rfl := hv.int_eq
            have hl_feed_here' := hl_feed_here.step g7
            have hs2 : 0 ≤ (sd * 48271 + 7919) % 2147483647 ∧ (sd * 48271 + 7919) % 2147483647 < 2147483647 := by omega
            generalize (sd * 48271 + 7919) % 2147483647 = sd2 at hs2 ⊢
            have h_seed : ∀ G, Dx G (.int sd2) (.int sd2) := fun _ => .int sd2
            refine s_app' hl_feed_here' rfl ((fun h_seed => (ev_op (ev_op (ev_var rfl h_seed) ev_int (rd_fdiv (by walk_at "arith"))) ev_int (rd_mod (by walk_at "arith")))) (h_seed _)) (by rw [List.length_map]; omega) fun v G8 H8 hv g8 o8 => ?_
            obtain rfl := hv.int_eq
            rw [ints_app] at o8 ⊢
            refine ⟨G8, ?_, _, _, _, rfl, hs2, o8, by rw [List.length_append, List.length_singleton]; omega, el_app he (mod_ok _)⟩
            exact (((gg.trans g7.any).trans g8.any).write (Or.inl (by simp)) o8.hn)
          · obtain ⟨gs, sd, v4, rfl, _, o, hg, he⟩ := p
            exact ⟨gs, _, _, _, _, G', rfl, o, by have : (6 : Int).toNat = 6 := rfl; omega, he⟩
      · exact ⟨fs, _, _, _, _, G2, rfl, hl_feed_here.step g2, hf, he⟩
    · obtain ⟨fs, v2, v3, v4, v5, G', rfl, hl_feed_here, hf, he⟩ := p
      refine q_asg (ev_op (ev_op ev_int (ev_lenO rfl hl_feed_here.hl) rd_add) (ev_sumO rfl hl_feed_here.hl (Dxs.ints _)) rd_add) hl_feed_here.s fun v G2 H2 g2 hv => ?_
      obtain rfl := hv.int_eq
      replace hl_feed_here := hl_feed_here.step g2
      have hsum : ∀ fs : List Int, (∀ x ∈ fs, 0 ≤ x ∧ x < 55440) → 0 ≤ fs.sum ∧ fs.sum ≤ 55440 * (fs.length : Int) := by
        intro fs
        induction fs with
        | nil => intro _; simp
        | cons x r ih =>
          intro h
          have h1 := h x (by simp)
          have h2 := ih fun y hy => h y (by simp [hy])
          rw [List.sum_cons, List.length_cons]
          omega
      have hs1 := hsum fs he
      rw [List.length_map]
      have hs2 : 0 ≤ 271 + (fs.length : Int) + fs.sum ∧ 271 + (fs.length : Int) + fs.sum < 2147483647 := by omega
      generalize 271 + (fs.length : Int) + fs.sum = sd at hs2 ⊢
      refine q_forR [l] (fun n σ' G' H' => ∃ (gs : List Int) (sd : Int) (v4 : Option V), σ' = [some (.ref a), some (.ref l), v2, v3, v4, some (.int sd)] ∧ (0 ≤ sd ∧ sd < 2147483647) ∧ Ow G H G' H' l (gs.map V.int) ∧ (n ≤ gs.length ∧ gs.length ≤ 329) ∧ ∀ x ∈ gs, 0 ≤ x ∧ x < 55440)
        (ea_cons ev_int ea_nil) (by omega) hl_feed_here.s (fun G6 H6 g6 => ⟨fs, sd, v4, rfl, hs2, hl_feed_here.step g6, by omega, he⟩) (fun G6 H6 g6 n σ' G' H' hn2 gg p => ?_) (fun σ' G' H' gg p => ?_)
      · obtain ⟨gs, sd, v4, rfl, hs1, hl_feed_here, hg, he⟩ := p
        refine s_if (et_test (ev_op (ev_lenO rfl hl_feed_here.hl) ev_int rd_lt)) hl_feed_here.s (fun hb G7 H7 g7 => ?_) (fun hb G7 H7 g7 => ?_)
        · have hb := of_decide_eq_true hb
          rw [List.length_map] at hb
          have h_seed : ∀ G, Dx G (.int sd) (.int sd) := fun _ => .int sd
          have o7 := hl_feed_here.step g7
          refine q_asg ((fun h_seed => (ev_op (ev_op (ev_op (ev_var rfl h_seed) ev_int (rd_mul (by walk_at "arith"))) ev_int rd_add) ev_int (rd_mod (by walk_at "arith")))) (h_seed _)) o7.s fun v G8 H8 g8 hv => ?_
          obtain rfl := hv.int_eq
          have hs3 : 0 ≤ (sd * 48271 + 12345) % 2147483629 ∧ (sd * 48271 + 12345) % 2147483629 < 2147483647 := by omega
          generalize (sd * 48271 + 12345) % 2147483629 = sd2 at hs3 ⊢
          have h_seed : ∀ G, Dx G (.int sd2) (.int sd2) := fun _ => .int sd2
          refine s_app' (o7.step g8) rfl ((fun h_seed => (ev_op (ev_op (ev_var rfl h_seed) ev_int (rd_fdiv (by walk_at "arith"))) ev_int (rd_mod (by walk_at "arith")))) (h_seed _)) (by rw [List.length_map]; omega) fun v G9 H9 hv g9 o9 => ?_
          obtain rfl := hv.int_eq
          rw [ints_app] at o9 ⊢
          refine ⟨G9, ?_, _, _, _, rfl, hs3, o9, by rw [List.length_append, List.length_singleton]; omega, el_app he (mod_ok _)⟩
          exact ((((gg.trans g7.any).trans g8.any).trans g9.any).write (Or.inl (by simp)) o9.hn)
        · have hb := of_decide_eq_false hb
          rw [List.length_map] at hb
          exact ⟨G7, gg.trans g7.any, gs, sd, _, rfl, hs1, hl_feed_here.step g7, by omega, he⟩
      · obtain ⟨gs, sd, v4, rfl, _, o, hg, he⟩ := p
        refine ⟨.ref l, rfl, k l gs G' H' ⟨by have : (270 : Int).toNat = 270 := rfl; omega, by omega, he⟩ (o.g.drop h0) h0 o.hn o.hl⟩
theorem q_feed {K : PySem.W.Frag} {E : XK} {σ : L2.St} {H : Hp} {tz : TS} {D : Ends} {i j : Nat} {a : Addr} {ns : List Int} (hv : σ[i]? = some (some (.ref a))) (hS : SqL K H a (ns.map V.int)) (hlen : ns.length ≤ 63)
    (k : ∀ l fs G1 H1, FeedOk fs → Gr [] (fun _ => none) H G1 H1 → Dx G1 (.ref l) (.list (fs.map .int)) → tz D (σ.set j (some (.ref l))) H1) : tSeq (tAsg (tCall (spFeed K) [] E (tCons (tVar i) tNil)) (gName j)) tz D σ H :=
  ⟨.ref a, hv, (fun _ => none), a, ns, rfl, (fun _ _ e => nomatch e), hS, hlen, fun l fs _ H1 hok g1 h0 hn hl => k l fs _ H1 hok (g1.freeze hl hn h0) (.lst upd_same (Dxs.ints fs))⟩

/-! ### the mathematics of names and rows -/
theorem given_map {β : Type} (n : Nat) (v : Nat → β) : given n (fun _ => true) v = (List.range n).map v := by
  unfold given
  rw [List.filter_eq_self.mpr (fun _ _ => rfl)]
abbrev alpha : Str := "abcdefghijklmnopqrstuvwxyz"
abbrev mistral : Str := "mistral"
def words : List Str := ["ask", "bound", "in", "fair", "free", "none", "house", "a", "paid"]
def Sm (z : Str) : Prop := ∀ c ∈ z.cps.toList, c < 128
theorem Sm.ok {z : Str} (h : Sm z) : PyData.strOk z = true := by
  unfold PyData.strOk
  rw [Array.all_eq_true]
  intro i hi
  have := h z.cps[i] (by simp)
  exact decide_eq_true (by omega)
theorem Sm.app {y z : Str} (h : Sm y) (k : Sm z) : Sm (y ++ z) := fun c hc => by
  have e : (y ++ z).cps.toList = y.cps.toList ++ z.cps.toList := Array.toList_append
  rw [e] at hc
  rcases List.mem_append.mp hc with q | q
  · exact h c q
  · exact k c q
theorem Sm.cut {z : Str} {lo hi : Option Int} (h : Sm z) : Sm (cutS z lo hi) := fun c hc => by
  unfold cutS at hc
  exact h c (List.mem_of_mem_drop (List.mem_of_mem_take hc))
theorem atI_sign {z : Str} {i : Int} (h0 : 0 ≤ i) (h : i < z.length) : atI z.cps.toList i = some (z.cps.toList.getD i.toNat 0) := by
  obtain ⟨k, rfl⟩ : ∃ k : Nat, i = (k : Int) := ⟨i.toNat, by omega⟩
  have hk : k < z.cps.toList.length := by
    have : z.cps.toList.length = z.length := rfl
    omega
  refine atI_nat ?_
  show z.cps.toList[k]? = some (z.cps.toList.getD k 0)
  rw [List.getD_eq_getElem?_getD, List.getElem?_eq_getElem hk]; rfl
theorem atI_strs {zs : List Str} {i : Int} (h0 : 0 ≤ i) (h : i < zs.length) : atI (zs.map PyData.str) i = some (.str (zs.getD i.toNat default)) := by
  obtain ⟨k, rfl⟩ : ∃ k : Nat, i = (k : Int) := ⟨i.toNat, by omega⟩
  have hk : k < zs.length := by omega
  refine atI_nat ?_
  rw [List.getElem?_map, List.getElem?_eq_getElem hk]
  show some (PyData.str zs[k]) = some (PyData.str (zs.getD k default))
  rw [List.getD_eq_getElem?_getD, List.getElem?_eq_getElem hk]; rfl
theorem getD_of {α : Type} {xs : List α} {i : Nat} {d : α} {P : α → Prop} (h : ∀ x ∈ xs, P x) (hi : i < xs.length) : P (xs.getD i d) := by
  rw [List.getD_eq_getElem?_getD, List.getElem?_eq_getElem hi]
  exact h _ (List.getElem_mem hi)
def nmSign (p k : Int) : Str := ⟨#[alpha.cps.toList.getD ((p / 32 + 11 * k) % 26).toNat 0]⟩
def nmL (p k : Int) : List Str := [nmSign p k, cutS mistral none (some (p / 4 % 8)) ++ nmSign p k ++ cutS mistral (some (p / 4 % 8)) none, repS (nmSign p k) (1 + (p / 4 % 8 + 3 * k) % 8), words.getD ((p / 4 % 8 + k) % 9).toNat default]
def nm (p k : Int) : Str := (nmL p k).getD (p % 4).toNat default
theorem alpha_eq : alpha.cps.toList = [97, 98, 99, 100, 101, 102, 103, 104, 105, 106, 107, 108, 109, 110, 111, 112, 113, 114, 115, 116, 117, 118, 119, 120, 121, 122] := by decide +kernel
theorem alpha_len : alpha.cps.toList.length = 26 := by rw [alpha_eq]; rfl
theorem mistral_len : mistral.length = 7 := by decide +kernel
theorem cutS_len (z : Str) (lo hi : Option Int) : (cutS z lo hi).length ≤ z.length := by
  unfold cutS
  show ((z.cps.toList.drop _).take _).length ≤ z.cps.toList.length
  rw [List.length_take, List.length_drop]
  omega
theorem cut2_len (z : Str) (n : Nat) (h : n ≤ z.length) : (cutS z none (some (n : Int))).length + (cutS z (some (n : Int)) none).length = z.length := by
  unfold cutS
  show ((z.cps.toList.drop _).take _).length + ((z.cps.toList.drop _).take _).length = z.cps.toList.length
  have hz : z.cps.toList.length = z.length := rfl
  rw [HT.sIx_nat, HT.sIx_nat, HT.sIx_none, HT.sIx_none, List.length_take, List.length_drop, List.length_take, List.length_drop]
  omega
theorem nmSign_sm (p k : Int) : Sm (nmSign p k) := fun c hc => by
  have e : (nmSign p k).cps.toList = [alpha.cps.toList.getD ((p / 32 + 11 * k) % 26).toNat 0] := rfl
  rw [e, List.mem_singleton] at hc
  rw [hc]
  have go : ∀ c ∈ alpha.cps.toList, c < 128 := by rw [alpha_eq]; decide
  exact getD_of go (by rw [alpha_len]; omega)
theorem words_ok : ∀ z ∈ words, (z.length ≤ 8 ∧ z ≠ "nobody") ∧ z.cps.toList.all (fun c => decide (c < 128)) = true := by decide +kernel
theorem nobody_len : ("nobody" : Str).length = 6 := by decide +kernel
theorem nobody_cps : ("nobody" : Str).cps.toList = [110, 111, 98, 111, 100, 121] := by decide +kernel
structure NmOk (z : Str) : Prop where
  sm : Sm z
  len : z.length ≤ 8
  ne : z ≠ "nobody"
theorem nm_ok (p k : Int) : NmOk (nm p k) := by
  have hm : Sm mistral := by
    have : ∀ c ∈ mistral.cps.toList, c < 128 := by decide +kernel
    exact this
  have h1 : (nmSign p k).length = 1 := rfl
  have a0 : 0 ≤ p / 4 % 8 ∧ p / 4 % 8 < 8 := by omega
  refine getD_of (xs := nmL p k) (fun z hz => ?_) (by show (p % 4).toNat < 4; omega)
  unfold nmL at hz
  simp only [List.mem_cons, List.not_mem_nil, or_false] at hz
  rcases hz with rfl | rfl | rfl | rfl
  · exact ⟨nmSign_sm p k, by omega, fun e => by rw [e, nobody_len] at h1; cases h1⟩
  · obtain ⟨n, hn⟩ : ∃ n : Nat, p / 4 % 8 = (n : Int) := ⟨(p / 4 % 8).toNat, by omega⟩
    have hl : (cutS mistral none (some (p / 4 % 8)) ++ nmSign p k ++ cutS mistral (some (p / 4 % 8)) none).length = 8 := by
      have e : (cutS mistral none (some (p / 4 % 8)) ++ nmSign p k ++ cutS mistral (some (p / 4 % 8)) none).length = (cutS mistral none (some (p / 4 % 8))).length + (nmSign p k).length + (cutS mistral (some (p / 4 % 8)) none).length := by
        show ((cutS mistral none (some (p / 4 % 8))).cps ++ (nmSign p k).cps ++ (cutS mistral (some (p / 4 % 8)) none).cps).size = _
        rw [Array.size_append, Array.size_append]
        rfl
      have c2 := cut2_len mistral n (by rw [mistral_len]; omega)
      rw [mistral_len] at c2
      rw [e, h1, hn]
      omega
    exact ⟨(hm.cut.app (nmSign_sm p k)).app hm.cut, by omega, fun e => by rw [e, nobody_len] at hl; cases hl⟩
  · refine ⟨repS_mem (P := fun c => c < 128) (nmSign_sm p k), ?_, fun e => ?_⟩
    · rw [repS_len (by omega), h1]; omega
    · have hc : ∀ c ∈ (repS (nmSign p k) (1 + (p / 4 % 8 + 3 * k) % 8)).cps.toList, c = alpha.cps.toList.getD ((p / 32 + 11 * k) % 26).toNat 0 := repS_mem (P := fun c => c = alpha.cps.toList.getD ((p / 32 + 11 * k) % 26).toNat 0) (fun c hc => List.mem_singleton.mp hc)
      rw [e, nobody_cps] at hc
      have q1 := hc 110 (by simp)
      have q2 := hc 111 (by simp)
      omega
  · refine getD_of (P := NmOk) (fun z hz => ?_) (by show ((p / 4 % 8 + k) % 9).toNat < 9; omega)
    obtain ⟨⟨w1, w2⟩, w3⟩ := words_ok z hz
    exact ⟨fun c hc => of_decide_eq_true (List.all_eq_true.mp w3 c hc), w1, w2⟩
abbrev Rw := List (Str × Bool)
def encP (p : Str × Bool) : PyData := .tuple [.str p.1, .bool p.2]
def encR (r : Rw) : List PyData := r.map encP
def nth (fs : List Int) (i : Int) : Int := fs.getD i.toNat 0
def rowAt (fs : List Int) (k : Nat) : Str × Bool := (nm (nth fs 2) (nth fs (4 + k) % (1 + nth fs 0 % 9)), decide (0 < nth fs (13 + k) % 4))
def rowM (fs : List Int) : Rw := (List.range (2 + nth fs 3 % 7).toNat).map (rowAt fs)
theorem nth_ok {fs : List Int} (h : FeedOk fs) {i : Int} (h0 : 0 ≤ i) (hi : i < 270) : 0 ≤ nth fs i ∧ nth fs i < 55440 := getD_of (P := fun x => 0 ≤ x ∧ x < 55440) h.el (by have := h.lo; omega)
structure RowOk (r : Rw) : Prop where
  lo : 2 ≤ r.length
  hi : r.length ≤ 8
  nm : ∀ p ∈ r, NmOk p.1
theorem rowM_ok {fs : List Int} : RowOk (rowM fs) := by
  have hl : (rowM fs).length = (2 + nth fs 3 % 7).toNat := by unfold rowM; rw [List.length_map, List.length_range]
  refine ⟨by rw [hl]; omega, by rw [hl]; omega, fun p hp => ?_⟩
  unfold rowM at hp
  obtain ⟨k, _, rfl⟩ := List.mem_map.mp hp
  exact nm_ok _ _
theorem atI_feed {fs : List Int} (h : FeedOk fs) {i : Int} (h0 : 0 ≤ i) (hi : i < 270) : atI (fs.map PyData.int) i = some (.int (nth fs i)) := atI_int h0 (by have := h.lo; omega)
theorem atI_row {r : Rw} {i : Nat} {p : Str × Bool} (h : r[i]? = some p) : atI (encR r) (i : Int) = some (encP p) := atI_nat (by unfold encR; rw [List.getElem?_map, h]; rfl)
theorem encR_get {r : Rw} {i : Nat} {d : PyData} (h : (encR r)[i]? = some d) : ∃ p, r[i]? = some p ∧ d = encP p := by
  unfold encR at h
  rw [List.getElem?_map] at h
  cases e : r[i]? with
  | none => rw [e] at h; cases h
  | some p => rw [e] at h; exact ⟨p, rfl, (Option.some.inj h).symm⟩
theorem shaped_p {p : Str × Bool} (h : NmOk p.1) : SeqAt.shaped (encP p) = true := by
  have hc : PyData.strOk p.1 = true := h.sm.ok
  unfold SeqAt.shaped encP
  simp [PyData.canLay0, PyData.canLayAll0, hc, PyData.depth, PyData.depthAll]
theorem eqv_p {p q : Str × Bool} : PyData.eqv (encP p) (encP q) = (decide (p.1 = q.1) && decide (p.2 = q.2)) := by
  unfold encP
  obtain ⟨a, b⟩ := p
  obtain ⟨c, d⟩ := q
  cases b <;> cases d <;> simp [PyData.eqv, PyData.eqvAll] <;> rfl
theorem canLay_row {r : Rw} (h : ∀ p ∈ r, NmOk p.1) : PyData.canLayAll0 (encR r) = true := by
  induction r with
  | nil => rfl
  | cons p r ih =>
    have h1 : PyData.strOk p.1 = true := (h p (by simp)).sm.ok
    have h2 := ih fun q hq => h q (by simp [hq])
    show PyData.canLayAll0 (encP p :: encR r) = true
    rw [PyData.canLayAll0, h2]
    unfold encP
    simp [PyData.canLay0, PyData.canLayAll0, h1]
theorem depth_row {r : Rw} : PyData.depthAll (encR r) ≤ 4 := by
  induction r with
  | nil => show PyData.depthAll [] ≤ 4; unfold PyData.depthAll; omega
  | cons p r ih =>
    show PyData.depthAll (encP p :: encR r) ≤ 4
    unfold encP
    simp only [PyData.depthAll, PyData.depth]
    omega
theorem shaped_row {r : Rw} (h : ∀ p ∈ r, NmOk p.1) : SeqAt.shaped (.list (encR r)) = true := by
  unfold SeqAt.shaped
  have h1 := canLay_row h
  have h2 := depth_row (r := r)
  rw [Bool.and_eq_true]
  refine ⟨by rw [PyData.canLay0]; exact h1, decide_eq_true ?_⟩
  unfold PyData.depth
  omega
theorem eqv_row {r : Rw} (h : ∀ p ∈ r, NmOk p.1) : PyData.eqv (.list (encR r)) (.list (encR r)) = true := SeqAt.eqv_refl _ (by rw [PyData.canLay0]; exact canLay_row h)
def reachM (r : Rw) (h : Str) : Nat := r.findIdx fun p => p.2 && decide (p.1 = h)
theorem reachM_at {r : Rw} {h : Str} {n : Nat} {p : Str × Bool} (hp : r[n]? = some p) (h1 : ∀ j q, j < n → r[j]? = some q → (q.2 && decide (q.1 = h)) = false) (h2 : (p.2 && decide (p.1 = h)) = true) : reachM r h = n := by
  have hn : n < r.length := (List.getElem?_eq_some_iff.mp hp).1
  unfold reachM
  rw [List.findIdx_eq hn]
  refine ⟨?_, fun j hj => ?_⟩
  · have e : r[n] = p := (List.getElem?_eq_some_iff.mp hp).2
    rw [e]; exact h2
  · exact h1 j _ hj (List.getElem?_eq_getElem (by omega))
theorem reachM_end {r : Rw} {h : Str} (h1 : ∀ j q, j < r.length → r[j]? = some q → (q.2 && decide (q.1 = h)) = false) : reachM r h = r.length := by
  unfold reachM
  rw [List.findIdx_eq_length]
  intro x hx
  obtain ⟨j, hj, rfl⟩ := List.getElem_of_mem hx
  exact h1 j _ hj (List.getElem?_eq_getElem hj)
theorem reachM_le (r : Rw) (h : Str) : reachM r h ≤ r.length := List.findIdx_le_length
local macro_rules | `(tactic| walk_at "at") => `(tactic| first | exact atI_feed ‹FeedOk _› (by omega) (by omega) | exact atI_sign (by omega) (by first | omega | (refine Int.lt_of_lt_of_le (Int.emod_lt_of_pos _ (by decide)) (by decide +kernel))))
local macro_rules | `(tactic| walk_at "arith") => `(tactic| first | omega | decide | (unfold CMul; omega) | (unfold CDiv; omega) | (unfold CPow; decide) | (refine ⟨?_, ?_⟩ <;> omega) | decide +kernel | (simp; done) | (simp; omega))

abbrev spName : Sp := SpD (α := Int × Int) (fun x => [.int x.1, .int x.2]) (fun x => (0 ≤ x.1 ∧ x.1 < 55440) ∧ 0 ≤ x.2 ∧ x.2 < 100) (fun x => .str (nm x.1 x.2))
theorem ok_Lname (T : Txt K mg A) : FnOk P w K mg base CX0 1 A.a_Lname A.d_Lname ["_law_pick", "_law_k"] spName := by
  refine T.F_Lname.ok sc_Lname (fun vs H Q E h => ?_) (fun cdv A' outer s H vs Q E hr h => ?_)
  · obtain ⟨G, x, _, hx, _⟩ := h
    exact hx.len
  · obtain ⟨G, ⟨p, j⟩, s0, hx, ⟨hp, hj⟩, k⟩ := h
    obtain ⟨v0, v1, rfl, h_pick, h_k⟩ := dxs2 hx
    obtain rfl := h_pick.int_eq
    obtain rfl := h_k.int_eq
    have ip : ∀ G, Dx G (.int p) (.int p) := fun _ => .int _
    have ik : ∀ G, Dx G (.int j) (.int j) := fun _ => .int _
    simp only at hp hj
    refine ⟨_, (pss_cons (ps_set (i := 2) sc_Lname.nd rfl (Or.inl rfl) (pe_ix ix_str pe_str (pe_op op_mod (pe_op op_add (pe_op op_fdiv (pv 0) pe_int) (pe_op op_mul pe_int (pv 1))) pe_int) (fun _ _ => rfl)))
      (pss_cons (ps_set (i := 3) sc_Lname.nd rfl (Or.inl rfl) (pe_op op_mod (pe_op op_fdiv (pv 0) pe_int) pe_int))
      (pss_cons (ps_set (i := 4) sc_Lname.nd rfl (Or.inl rfl) (pe_lst (pa_cons pe_str (pa_cons pe_str (pa_cons pe_str (pa_cons pe_str (pa_cons pe_str (pa_cons pe_str (pa_cons pe_str (pa_cons pe_str (pa_cons pe_str pa_nil)))))))))))
      (pss_cons (ps_set (i := 5) sc_Lname.nd rfl (Or.inl rfl) (pe_lst (pa_cons (pv 2) (pa_cons (pe_op op_add_str (pe_op op_add_str (pe_slice sl_str pe_str po_none (po_some (pv 3))) (pv 2)) (pe_slice sl_str pe_str (po_some (pv 3)) po_none)) (pa_cons (pe_op op_repS (pv 2) (pe_op op_add pe_int (pe_op op_mod (pe_op op_add (pv 3) (pe_op op_mul pe_int (pv 1))) pe_int))) pa_nil)))))
      (pss_one (ps_ret (pe_ix (ix_listK (K := K)) (pe_op op_cat (pv 5) (pe_lst (pa_cons (pe_ix (ix_listK (K := K)) (pv 4) (pe_op op_mod (pe_op op_add (pv 3) (pv 1)) pe_int) (fun _ _ => rfl)) pa_nil))) (pe_op op_mod (pv 0) pe_int) (fun _ _ => rfl)))))))), ?_⟩
    refine q_asg (ev_op ev_str ((fun h_pick h_k => (ev_op (ev_op (ev_op (ev_var rfl h_pick) ev_int (rd_fdiv (by walk_at "arith"))) (ev_op ev_int (ev_var rfl h_k) (rd_mul (by walk_at "arith"))) rd_add) ev_int (rd_mod (by walk_at "arith")))) (ip _) (ik _)) (rd_ixS (z := alpha) (c := alpha.cps.toList.getD ((p / 32 + 11 * j) % 26).toNat 0) (by decide +kernel) (by walk_at "at"))) s0 fun v G1 H1 g1 hv => ?_
    obtain rfl := hv.str_eq
    refine q_asg ((fun h_pick => (ev_op (ev_op (ev_var rfl h_pick) ev_int (rd_fdiv (by walk_at "arith"))) ev_int (rd_mod (by walk_at "arith")))) (ip _)) g1.s fun v G2 H2 g2 hv => ?_
    obtain rfl := hv.int_eq
    refine q_asg ((ev_lst (ea_cons ev_str (ea_cons ev_str (ea_cons ev_str (ea_cons ev_str (ea_cons ev_str (ea_cons ev_str (ea_cons ev_str (ea_cons ev_str (ea_cons ev_str ea_nil))))))))) (by walk_at "arith"))).dat g2.s fun vw G3 H3 g3 h_words => ?_
    have sg : ∀ G, Dx G (.str (nmSign p j)) (.str (nmSign p j)) := fun _ => .str _
    have ia : ∀ G, Dx G (.int (p / 4 % 8)) (.int (p / 4 % 8)) := fun _ => .int _
    have l1 : (nmSign p j).length = 1 := rfl
    have c1 := cutS_len mistral none (some (p / 4 % 8))
    have c2 := cutS_len mistral (some (p / 4 % 8)) none
    rw [mistral_len] at c1 c2
    have c3 : (cutS mistral none (some (p / 4 % 8)) ++ nmSign p j).length = (cutS mistral none (some (p / 4 % 8))).length + 1 := by
      show ((cutS mistral none (some (p / 4 % 8))).cps ++ (nmSign p j).cps).size = _
      rw [Array.size_append]; rfl
    refine q_asg (ev_lst (ea_cons (ev_var rfl (sg _)) (ea_cons (ev_op (ev_op (ev_slS (z := mistral) ev_str eo_none (eo_some (ev_var rfl (ia _))) (by decide +kernel)) (ev_var rfl (sg _)) (rd_addS (by omega))) (ev_slS (z := mistral) ev_str (eo_some (ev_var rfl (ia _))) eo_none (by decide +kernel)) (rd_addS (by omega)))
      (ea_cons (ev_op (ev_var rfl (sg _)) ((fun h_k h_at => (ev_op ev_int (ev_op (ev_op (ev_var rfl h_at) (ev_op ev_int (ev_var rfl h_k) (rd_mul (by walk_at "arith"))) rd_add) ev_int (rd_mod (by walk_at "arith"))) rd_add)) (ik _) (ia _)) (rd_repS (by omega))) ea_nil))) (by show 3 ≤ 100000; decide)).dat g3.s fun vs G4 H4 g4 h_some => ?_
    have h_words := h_words.mono g4.g
    refine s_ret (ev_op (ev_opM (ev_var rfl h_some) (ev_lst (ea_cons (ev_op (ev_var rfl h_words) ((fun h_k h_at => (ev_op (ev_op (ev_var rfl h_at) (ev_var rfl h_k) rd_add) ev_int (rd_mod (by walk_at "arith")))) (ik _) (ia _)) (rd_ixL (atI_strs (zs := words) (by omega) (by show _ < (9 : Int); omega)))) ea_nil) (by show 1 ≤ 100000; decide)).dat (rd_cat (by show 3 + 1 ≤ 100000; decide))).dat
      ((fun h_pick => (ev_op (ev_var rfl h_pick) ev_int (rd_mod (by walk_at "arith")))) (ip _)) (rd_ixL (atI_strs (zs := nmL p j) (by omega) (by show _ < (4 : Int); omega)))) g4.s fun v G5 H5 g5 hv => k v G5 H5 (g1.trans (g2.trans (g3.trans (g4.trans g5)))) hv

def spLaw (K : PySem.W.Frag) : Sp := fun vs H Q _ => ∃ (a : Addr) (ns : List Int), vs = [.ref a] ∧ SqL K H a (ns.map V.int) ∧ ns.length ≤ 63 ∧ (∀ z ∈ ns, Builtin.Int.intBits z ≤ 1048576) ∧ ∀ H', Q (.bl true) H'
theorem due_err {m : Mp} {way : Int} {a b : Str} {c : Int} {k : Kd} (hw : way = 0 ∨ way = 1 ∨ way = 2 ∨ way = 3) (h : doR m way a b c = .error k) : dueS m way a b c = kstr k := by
  unfold doR at h
  unfold dueS
  rcases hw with rfl | rfl | rfl | rfl
  · rw [if_pos rfl] at h
    unfold addR at h
    cases q : (get m a).isSome with
    | true => rw [if_pos q] at h; cases h; rfl
    | false =>
      rw [if_neg (by rw [q]; decide)] at h
      by_cases hc : c < 0
      · rw [if_pos hc] at h; cases h
        rw [if_neg (by first | decide | exact Bool.false_ne_true), if_neg (by first | decide | exact Bool.false_ne_true), if_pos hc]; rfl
      · rw [if_neg hc] at h; cases h
  · rw [if_neg (by first | decide | exact Bool.false_ne_true), if_pos rfl] at h
    cases q : get m a with
    | none => rw [fill_none q] at h; cases h; rfl
    | some y =>
      by_cases hc : c < 0
      · rw [fill_bad q hc] at h; cases h
        rw [if_neg (by first | decide | exact Bool.false_ne_true), if_neg (by first | decide | exact Bool.false_ne_true), if_pos hc]; rfl
      · rw [fill_ok q hc] at h; cases h
  · rw [if_neg (by first | decide | exact Bool.false_ne_true), if_neg (by first | decide | exact Bool.false_ne_true), if_pos rfl] at h
    cases q : get m a with
    | none => rw [spend_none q] at h; cases h; rfl
    | some y =>
      by_cases hc : c < 0
      · rw [spend_bad q hc] at h; cases h
        rw [if_neg (by first | decide | exact Bool.false_ne_true), if_neg (by first | decide | exact Bool.false_ne_true), if_pos hc]; rfl
      · by_cases hs : y < c
        · rw [spend_short q hc hs] at h; cases h
          rw [if_neg (by first | decide | exact Bool.false_ne_true), if_neg (by first | decide | exact Bool.false_ne_true), if_neg hc, if_pos (by show (true && decide (y < c)) = true; rw [decide_eq_true hs]; rfl)]; rfl
        · rw [spend_ok q hc hs] at h; cases h
  · rw [if_neg (by first | decide | exact Bool.false_ne_true), if_neg (by first | decide | exact Bool.false_ne_true), if_neg (by first | decide | exact Bool.false_ne_true)] at h
    cases q : get m a with
    | none => rw [pay_n1 q] at h; cases h; rfl
    | some y =>
      cases r : get m b with
      | none => rw [pay_n2 r] at h; cases h; rfl
      | some z =>
        rw [pay_go (by rw [q]; rfl) (by rw [r]; rfl)] at h
        by_cases hc : c < 0
        · rw [spend_bad q hc] at h; cases h
          rw [if_neg (by first | decide | exact Bool.false_ne_true), if_neg (by first | decide | exact Bool.false_ne_true), if_pos hc]; rfl
        · by_cases hs : y < c
          · rw [spend_short q hc hs] at h; cases h
            rw [if_neg (by first | decide | exact Bool.false_ne_true), if_neg (by first | decide | exact Bool.false_ne_true), if_neg hc, if_pos (by show (true && decide (y < c)) = true; rw [decide_eq_true hs]; rfl)]; rfl
          · rw [spend_ok q hc hs] at h
            have h : fillR (put m a (y - c)) b c = .error k := h
            have g : ∃ x, get (put m a (y - c)) b = some x := by
              rw [get_put]
              split
              · exact ⟨_, rfl⟩
              · exact ⟨z, r⟩
            obtain ⟨x, hx⟩ := g
            rw [fill_ok hx hc] at h; cases h
theorem due_ok {m m' : Mp} {way : Int} {a b : Str} {c : Int} (hw : way = 0 ∨ way = 1 ∨ way = 2 ∨ way = 3) (h : doR m way a b c = .ok m') : dueS m way a b c = "" := by
  unfold doR at h
  unfold dueS
  rcases hw with rfl | rfl | rfl | rfl
  · rw [if_pos rfl] at h
    unfold addR at h
    cases q : (get m a).isSome with
    | true => rw [if_pos q] at h; cases h
    | false =>
      rw [if_neg (by rw [q]; decide)] at h
      by_cases hc : c < 0
      · rw [if_pos hc] at h; cases h
      · rw [if_neg (by first | decide | exact Bool.false_ne_true), if_neg (by first | decide | exact Bool.false_ne_true), if_neg hc, if_neg (by first | decide | exact Bool.false_ne_true)]
  · rw [if_neg (by first | decide | exact Bool.false_ne_true), if_pos rfl] at h
    cases q : get m a with
    | none => rw [fill_none q] at h; cases h
    | some y =>
      by_cases hc : c < 0
      · rw [fill_bad q hc] at h; cases h
      · rw [if_neg (by first | decide | exact Bool.false_ne_true), if_neg (by first | decide | exact Bool.false_ne_true), if_neg hc, if_neg (by first | decide | exact Bool.false_ne_true)]
  · rw [if_neg (by first | decide | exact Bool.false_ne_true), if_neg (by first | decide | exact Bool.false_ne_true), if_pos rfl] at h
    cases q : get m a with
    | none => rw [spend_none q] at h; cases h
    | some y =>
      by_cases hc : c < 0
      · rw [spend_bad q hc] at h; cases h
      · by_cases hs : y < c
        · rw [spend_short q hc hs] at h; cases h
        · rw [if_neg (by first | decide | exact Bool.false_ne_true), if_neg (by first | decide | exact Bool.false_ne_true), if_neg hc, if_neg (by show ¬ (true && decide (y < c)) = true; rw [decide_eq_false hs]; decide)]
  · rw [if_neg (by first | decide | exact Bool.false_ne_true), if_neg (by first | decide | exact Bool.false_ne_true), if_neg (by first | decide | exact Bool.false_ne_true)] at h
    cases q : get m a with
    | none => rw [pay_n1 q] at h; cases h
    | some y =>
      cases r : get m b with
      | none => rw [pay_n2 r] at h; cases h
      | some z =>
        rw [pay_go (by rw [q]; rfl) (by rw [r]; rfl)] at h
        by_cases hc : c < 0
        · rw [spend_bad q hc] at h; cases h
        · by_cases hs : y < c
          · rw [spend_short q hc hs] at h; cases h
          · rw [if_neg (by first | decide | exact Bool.false_ne_true), if_neg (by first | decide | exact Bool.false_ne_true), if_neg hc, if_neg (by show ¬ (true && decide (y < c)) = true; rw [decide_eq_false hs]; decide)]
theorem len_do {m m' : Mp} {way : Int} {a b : Str} {c : Int} (h : doR m way a b c = .ok m') : m'.length ≤ m.length + 1 := by
  have fl : ∀ {m m' : Mp} {a : Str} {c : Int}, fillR m a c = .ok m' → m'.length ≤ m.length + 1 := fun h => by
    obtain ⟨y, _, rfl⟩ := fill_inv h
    exact len_put _ _ _
  unfold doR at h
  split at h
  · rw [add_inv h]; exact len_put _ _ _
  · split at h
    · exact fl h
    · split at h
      · rw [len_spend h]; omega
      · unfold payR at h
        split at h
        · cases h
        · split at h
          · cases h
          · split at h
            · cases h
            · rename_i m1 h1
              have := fl h
              rw [len_spend h1] at this
              exact this
/-! ### the world of the law: two purses objects, two dicts beside them -/
def up1 (m : Bool → Mp) (k : Bool) (x : Mp) : Bool → Mp := fun j => if j = k then x else m j
theorem up1_same {m : Bool → Mp} {k : Bool} {x : Mp} : up1 m k x k = x := if_pos rfl
theorem up1_ne {m : Bool → Mp} {k j : Bool} {x : Mp} (h : j ≠ k) : up1 m k x j = m j := if_neg h
structure Wd (B : Bd) (G H : Hp) (p d e : Bool → Addr) (bl ml : Addr) (mD mE : Bool → Mp) : Prop where
  s : Sb G H
  P : ∀ k, PuAt B.C H (p k) (d k) (mD k)
  E : ∀ k, H (e k) = some (.dK (kvM (mE k)))
  Bl : H bl = some (.lst [.ref (p false), .ref (p true)])
  Ml : H ml = some (.lst [.ref (e false), .ref (e true)])
  nd : ∀ k, G (d k) = none
  ne : ∀ k, G (e k) = none
  hd : ∀ j k, j ≠ k → d j ≠ d k
  he : ∀ j k, j ≠ k → e j ≠ e k
  hx : ∀ k j, d k ≠ e j
section
variable {B : Bd} {G H : Hp} {p d e : Bool → Addr} {bl ml : Addr} {mD mE : Bool → Mp}
theorem Wd.step {G' H' : Hp} (x : Wd B G H p d e bl ml mD mE) (g : Gr [] G H G' H') : Wd B G' H' p d e bl ml mD mE :=
  ⟨g.s, fun k => (x.P k).sb (sb_of g), fun k => sb_of g _ _ (x.E k), sb_of g _ _ x.Bl, sb_of g _ _ x.Ml, fun k => g.n _ _ (x.P k).2.1 (x.nd k), fun k => g.n _ _ (x.E k) (x.ne k), x.hd, x.he, x.hx⟩
theorem Wd.putD (x : Wd B G H p d e bl ml mD mE) (k : Bool) {m' : Mp} (hl : m'.length < 1000) : Wd B G (upd H (d k) (.dK (kvM m'))) p d e bl ml (up1 mD k m') mE := by
  have dk := (x.P k).2.1
  refine ⟨x.s.mut (x.nd k), fun j => ?_, fun j => (upd_ne (Ne.symm (x.hx k j))).trans (x.E j), (upd_ne (fun h => ?_)).trans x.Bl, (upd_ne (fun h => ?_)).trans x.Ml, x.nd, x.ne, x.hd, x.he, x.hx⟩
  · obtain ⟨⟨dx, h1⟩, h2, h3, h4⟩ := x.P j
    have hp : p j ≠ d k := fun h => by rw [h] at h1; rw [dk] at h1; cases h1
    by_cases h : j = k
    · subst h
      rw [up1_same]
      exact ⟨⟨dx, (upd_ne hp).trans h1⟩, upd_same, hl, h4⟩
    · rw [up1_ne h]
      exact ⟨⟨dx, (upd_ne hp).trans h1⟩, (upd_ne (x.hd _ _ h)).trans h2, h3, h4⟩
  · have := x.Bl; rw [h, dk] at this; cases this
  · have := x.Ml; rw [h, dk] at this; cases this
theorem Wd.putE (x : Wd B G H p d e bl ml mD mE) (k : Bool) {m' : Mp} : Wd B G (upd H (e k) (.dK (kvM m'))) p d e bl ml mD (up1 mE k m') := by
  have ek := x.E k
  refine ⟨x.s.mut (x.ne k), fun j => ?_, fun j => ?_, (upd_ne (fun h => ?_)).trans x.Bl, (upd_ne (fun h => ?_)).trans x.Ml, x.nd, x.ne, x.hd, x.he, x.hx⟩
  · obtain ⟨⟨dx, h1⟩, h2, h3, h4⟩ := x.P j
    have hp : p j ≠ e k := fun h => by rw [h] at h1; rw [ek] at h1; cases h1
    exact ⟨⟨dx, (upd_ne hp).trans h1⟩, (upd_ne (x.hx j k)).trans h2, h3, h4⟩
  · by_cases h : j = k
    · subst h; rw [up1_same]; exact upd_same
    · rw [up1_ne h]; exact (upd_ne (x.he _ _ h)).trans (x.E j)
  · have := x.Bl; rw [h, ek] at this; cases this
  · have := x.Ml; rw [h, ek] at this; cases this
theorem gr_sb {H' : Hp} (s : Sb G H) (h : Sb H H') : Gr [] G H G H' := ⟨Sb.refl G, s.trans h, fun a o _ e => h a o e, fun a o e => ⟨o, h a o e⟩, fun _ _ _ e => e⟩
/-- the objects of a list, by number -/
theorem rxl {K : PySem.W.Frag} {σ : L2.St} {Q : VK} {i j : Nat} {l : Addr} {f : Bool → Addr} {k : Bool} (hv : σ[i]? = some (some (.ref l))) (hl : H l = some (.lst [.ref (f false), .ref (f true)])) (hk : σ[j]? = some (some (.int (if k then 1 else 0)))) (q : Q (.ref (f k)) H) :
    tOp (rIxL K) (tVar i) (tVar j) σ H Q := ⟨_, hv, _, hk, l, _, _, _, rfl, rfl, Or.inl (Or.inl hl), by cases k <;> rfl, q⟩
theorem rxc {K : PySem.W.Frag} {σ : L2.St} {Q : VK} {i : Nat} {l : Addr} {f : Bool → Addr} (k : Bool) (hv : σ[i]? = some (some (.ref l))) (hl : H l = some (.lst [.ref (f false), .ref (f true)])) (q : Q (.ref (f k)) H) :
    tOp (rIxL K) (tVar i) (tC (.int (if k then 1 else 0))) σ H Q := ⟨_, hv, l, _, _, _, rfl, rfl, Or.inl (Or.inl hl), by cases k <;> rfl, q⟩
theorem mk_new {K : PySem.W.Frag} {mg : Str → Option Value} {σ : L2.St} {Q : VK} {E : XK} (k : ∀ p d H', Sb H H' → H p = none → H d = none → PuAt B.C H' p d [] → Q (.ref p) H') : tMake B.C (spInit B) [] E tNil σ H Q := by
  intro p dx n nd ne
  refine ⟨p, dx, rfl, upd_same, fun d hd => ⟨rfl, ?_⟩⟩
  have h1 : d ≠ p := fun h => by subst h; rw [upd_same] at hd; cases hd
  rw [upd_ne h1] at hd
  have h2 : d ≠ dx := fun h => by subst h; rw [upd_same] at hd; cases hd
  rw [upd_ne h2] at hd
  refine k p d _ (fun a o ha => ?_) n hd ⟨⟨dx, upd_same⟩, (upd_ne h1).trans upd_same, by decide, Ne.symm h1⟩
  have a1 : a ≠ p := fun h => by subst h; rw [n] at ha; cases ha
  have a2 : a ≠ d := fun h => by subst h; rw [hd] at ha; cases ha
  have a3 : a ≠ dx := fun h => by subst h; rw [nd] at ha; cases ha
  exact (upd_ne a1).trans ((upd_ne a2).trans ((upd_ne a1).trans ((upd_ne a3).trans ha)))
end
theorem ev_strange {B : Bd} {K : PySem.W.Frag} {G H : Hp} {p d e : Bool → Addr} {bl ml : Addr} {m : Bool → Mp} {σ : L2.St} {E : XK} {k : Bool} {z : Str} (W : Wd B G H p d e bl ml m m) (h2 : σ[2]? = some (some (.ref bl))) (h3 : σ[3]? = some (some (.ref ml))) (h7 : σ[7]? = some (some (.int (if k then 1 else 0)))) (h13 : σ[13]? = some (some (.str z))) :
    EvD (tCall (spStrange B) [] E (tCons (tOp (rIxL K) (tVar 2) (tVar 7)) (tCons (tVar 13) (tCons (tOp (rIxL K) (tVar 3) (tVar 7)) tNil)))) σ G H (.bool true) := fun G1 H1 a Q q => by
  have W := W.step a
  exact rxl h2 W.Bl h7 ⟨_, h13, rxl h3 W.Ml h7 ⟨p k, d k, e k, m k, z, rfl, W.P k, W.E k, fun H' s' => q _ G1 H' (gr_sb W.s s') (.bl true)⟩⟩
theorem ev_right {B : Bd} {K : PySem.W.Frag} {G H : Hp} {p d e : Bool → Addr} {bl ml : Addr} {m : Bool → Mp} {σ : L2.St} {E : XK} (k : Bool) (W : Wd B G H p d e bl ml m m) (hl : (m k).length < 64) (h2 : σ[2]? = some (some (.ref bl))) (h3 : σ[3]? = some (some (.ref ml))) :
    EvD (tCall (spRight B) [] E (tCons (tOp (rIxL K) (tVar 2) (tC (.int (if k then 1 else 0)))) (tCons (tOp (rIxL K) (tVar 3) (tC (.int (if k then 1 else 0)))) tNil))) σ G H (.bool true) := fun G1 H1 a Q q => by
  have W := W.step a
  have hep : e k ≠ p k := fun h => by
    obtain ⟨⟨dx, h1⟩, _⟩ := W.P k
    have h2 := W.E k
    rw [h, h1] at h2; cases h2
  exact rxc k h2 W.Bl (rxc k h3 W.Ml ⟨p k, d k, e k, m k, rfl, W.P k, W.E k, Ne.symm (W.hx k k), hep, hl, fun H' s' => q _ G1 H' (gr_sb W.s s') (.bl true)⟩)
theorem four_str {a b c d : Str} {i : Nat} {z : PyData} (h : ([.str a, .str b, .str c, .str d] : List PyData)[i]? = some z) : ∃ s, z = .str s := by
  match i, h with
  | 0, h => exact ⟨_, (Option.some.inj h).symm⟩
  | 1, h => exact ⟨_, (Option.some.inj h).symm⟩
  | 2, h => exact ⟨_, (Option.some.inj h).symm⟩
  | 3, h => exact ⟨_, (Option.some.inj h).symm⟩
  | n + 4, h => cases h
theorem mem_d {d e : Bool → Addr} (k : Bool) : d k ∈ [d false, d true, e false, e true] := by cases k <;> simp
theorem mem_e {d e : Bool → Addr} (k : Bool) : e k ∈ [d false, d true, e false, e true] := by cases k <;> simp
theorem qAsg {te : TE} {i : Nat} {D : Ends} {σ : L2.St} {H : Hp} {tz : TS} (h : te σ H fun v H1 => tz D (σ.set i (some v)) H1) : tSeq (tAsg te (gName i)) tz D σ H := h
theorem qIf {tt : TT} {tu tw : TS} {D : Ends} {σ : L2.St} {H : Hp} {tz : TS} (h : tt σ H fun b H1 => if b = true then tu { D with nx := tz D } σ H1 else tw { D with nx := tz D } σ H1) : tSeq (tIfS tt tu tw) tz D σ H := h
theorem qWhen {tt : TT} {tu : TS} {D : Ends} {σ : L2.St} {H : Hp} {tz : TS} (h : tt σ H fun b H1 => if b = true then tu { D with nx := tz D } σ H1 else tz D σ H1) : tSeq (tIfS tt tu tNext) tz D σ H := h
theorem asgI {te : TE} {i : Nat} {D : Ends} {σ : L2.St} {H : Hp} (h : te σ H fun v H1 => D.nx (σ.set i (some v)) H1) : tAsg te (gName i) D σ H := h
theorem lst2 {ta tb : TE} {σ : L2.St} {H : Hp} {Q : VK} (h : ta σ H fun v H1 => tb σ H1 fun u H2 => ∀ l, H2 l = none → Q (.ref l) (upd H2 l (.lst [v, u]))) : tLst (tCons ta (tCons tb tNil)) σ H Q := by
  have two_le : (2 : Nat) ≤ sizeLine := by rw [sizeLine_eq]; omega
  have e : tLst (tCons ta (tCons tb tNil)) σ H Q = ta σ H fun v H1 => tb σ H1 fun u H2 => (2 ≤ sizeLine ∧ ∀ l, H2 l = none → Q (.ref l) (upd H2 l (.lst [v, u]))) := rfl
  rw [e]
  have e2 : ∀ (v u : V) (H2 : Hp), (2 ≤ sizeLine ∧ ∀ l, H2 l = none → Q (.ref l) (upd H2 l (.lst [v, u]))) = ∀ l, H2 l = none → Q (.ref l) (upd H2 l (.lst [v, u])) := fun v u H2 => propext ⟨fun x => x.2, fun x => ⟨two_le, x⟩⟩
  simp only [e2]
  exact h
theorem two_le : (2 : Nat) ≤ sizeLine := by rw [sizeLine_eq]; omega
def pr (x y : Addr) : Bool → Addr
  | false => x
  | true => y
theorem ok_Law {B : Bd} (T : Txt K mg A) (U : Tx7 K mg B) : FnOk P w K mg base CX0 9 A.a_Law A.d_Law ["_law_script"] (spLaw K) := by
  have G_Lfeed := ok_Lfeed (P := P) (w := w) (base := base) T
  have G_Lname := ok_Lname (P := P) (w := w) (base := base) T
  have G_Minit := ok_init (P := P) (w := w) (base := base) T U
  have G_Ldue := ok_Ldue (P := P) (w := w) (base := base) T
  have G_Lmoved := ok_Lmoved (P := P) (w := w) (base := base) T
  have G_Lkinds := ok_Lkinds (P := P) (w := w) (base := base) T U
  have G_Lstrange := ok_Lstrange (P := P) (w := w) (base := base) T U
  have G_Lright := ok_Lright (P := P) (w := w) (base := base) T U
  refine T.F_Law.ok sc_Law (fun vs H Q E h => ?_) (fun cdv A' outer s H vs Q E hr h => ?_)
  · obtain ⟨a, ns, rfl, _⟩ := h
    rfl
  · obtain ⟨a, ns, rfl, hS, hlen, _, k⟩ := h
    refine ⟨_, (pss_cons (ps_set (i := 1) sc_Law.nd rfl (Or.inl rfl) (pe_call G_Lfeed (hr.mono (by omega)) (by rfl) T.m_Lfeed T.F_Lfeed.kp T.b_Lfeed .nil pass0 (pa_cons (pv 0) pa_nil)))
      (pss_cons (ps_set (i := 2) sc_Law.nd rfl (Or.inr rfl) (pe_lst (pa_cons (pe_make0 U.mkC G_Minit (hr.mono (by omega)) (by rfl) U.gC U.b_Minit .nil pass0) (pa_cons (pe_make0 U.mkC G_Minit (hr.mono (by omega)) (by rfl) U.gC U.b_Minit .nil pass0) pa_nil))))
      (pss_cons (ps_set (i := 3) sc_Law.nd rfl (Or.inr rfl) (pe_lst (pa_cons pe_dnewK (pa_cons pe_dnewK pa_nil))))
      (pss_cons (ps_set (i := 4) sc_Law.nd rfl (Or.inl rfl) (pe_ix (ix_listK (K := K)) (pe_lst (pa_cons pe_int (pa_cons pe_int (pa_cons (pe_op op_pow pe_int pe_int) pa_nil)))) (pe_op op_mod (pe_ix (ix_listK (K := K)) (pv 1) pe_int (fun _ _ => rfl)) pe_int) (fun _ _ => rfl)))
      (pss_cons (ps_for PassesOwn.never rfl (pi_range1 (by rfl) T.b.range (pa_cons (pe_op op_mod (pe_ix (ix_listK (K := K)) (pv 1) pe_int (fun _ _ => rfl)) pe_int) pa_nil)) (pg_name (i := 5) sc_Law.nd rfl (Or.inl rfl))
      (pss_cons (ps_set (i := 6) sc_Law.nd rfl (Or.inl rfl) (pe_op op_add pe_int (pe_op op_mul pe_int (pv 5))))
      (pss_cons (ps_set (i := 7) sc_Law.nd rfl (Or.inr rfl) (pe_op op_mod (pe_ix (ix_listK (K := K)) (pv 1) (pv 6) (fun _ _ => rfl)) pe_int))
      (pss_cons (ps_set (i := 8) sc_Law.nd rfl (Or.inl rfl) (pe_ix (ix_listK (K := K)) (pe_lst (pa_cons pe_int (pa_cons pe_int (pa_cons pe_int (pa_cons pe_int (pa_cons pe_int pa_nil)))))) (pe_op op_mod (pe_op op_fdiv (pe_ix (ix_listK (K := K)) (pv 1) (pv 6) (fun _ _ => rfl)) pe_int) pe_int) (fun _ _ => rfl)))
      (pss_cons (ps_set (i := 9) sc_Law.nd rfl (Or.inl rfl) (pe_ix (ix_listK (K := K)) (pe_lst (pa_cons (pe_call G_Lname (hr.mono (by omega)) (by rfl) T.m_Lname T.F_Lname.kp T.b_Lname .nil pass0 (pa_cons (pe_ix (ix_listK (K := K)) (pv 1) pe_int (fun _ _ => rfl)) (pa_cons (pe_op op_mod (pe_ix (ix_listK (K := K)) (pv 1) (pe_op op_add (pv 6) pe_int) (fun _ _ => rfl)) pe_int) pa_nil))) (pa_cons pe_str pa_nil))) (pe_callTy call_int1 (by rfl) T.b.int_ (by decide +kernel) (pa_cons (pe_cmpR op_eq (pe_op op_mod (pe_op op_fdiv (pe_ix (ix_listK (K := K)) (pv 1) (pe_op op_add (pv 6) pe_int) (fun _ _ => rfl)) pe_int) pe_int) pe_int (nomark _)) pa_nil)) (fun _ _ => rfl)))
      (pss_cons (ps_set (i := 10) sc_Law.nd rfl (Or.inl rfl) (pe_ix (ix_listK (K := K)) (pe_lst (pa_cons (pe_call G_Lname (hr.mono (by omega)) (by rfl) T.m_Lname T.F_Lname.kp T.b_Lname .nil pass0 (pa_cons (pe_ix (ix_listK (K := K)) (pv 1) pe_int (fun _ _ => rfl)) (pa_cons (pe_op op_mod (pe_ix (ix_listK (K := K)) (pv 1) (pe_op op_add (pv 6) pe_int) (fun _ _ => rfl)) pe_int) pa_nil))) (pa_cons pe_str (pa_cons (pv 9) pa_nil)))) (pe_ix (ix_listK (K := K)) (pe_lst (pa_cons pe_int (pa_cons pe_int (pa_cons pe_int (pa_cons pe_int (pa_cons pe_int (pa_cons pe_int (pa_cons pe_int (pa_cons pe_int pa_nil))))))))) (pe_op op_mod (pe_op op_fdiv (pe_ix (ix_listK (K := K)) (pv 1) (pe_op op_add (pv 6) pe_int) (fun _ _ => rfl)) pe_int) pe_int) (fun _ _ => rfl)) (fun _ _ => rfl)))
      (pss_cons (ps_set (i := 11) sc_Law.nd rfl (Or.inl rfl) (pe_op op_mul (pv 4) (pe_op op_sub (pe_op op_mod (pe_ix (ix_listK (K := K)) (pv 1) (pe_op op_add (pv 6) pe_int) (fun _ _ => rfl)) pe_int) pe_int)))
      (pss_cons (ps_set (i := 12) sc_Law.nd rfl (Or.inl rfl) (pe_call G_Ldue (hr.mono (by omega)) (by rfl) T.m_Ldue T.F_Ldue.kp T.b_Ldue .nil pass0 (pa_cons (pe_ix (ix_listK (K := K)) (pv 3) (pv 7) (fun _ _ => rfl)) (pa_cons (pv 8) (pa_cons (pv 9) (pa_cons (pv 10) (pa_cons (pv 11) pa_nil)))))))
      (pss_cons (ps_if (pt_cmpR op_ne (pe_call G_Lkinds (hr.mono (by omega)) (by rfl) T.m_Lkinds T.F_Lkinds.kp T.b_Lkinds .nil pass0 (pa_cons (pe_ix (ix_listK (K := K)) (pv 2) (pv 7) (fun _ _ => rfl)) (pa_cons (pv 8) (pa_cons (pv 9) (pa_cons (pv 10) (pa_cons (pv 11) pa_nil)))))) (pv 12) (nomark _))
      (pss_one (ps_ret pe_bl))
      pss_nil)
      (pss_cons (ps_if (pt_cmpR op_eq (pv 12) pe_str (nomark _))
      (pss_one (ps_expr (pe_call G_Lmoved (hr.mono (by omega)) (by rfl) T.m_Lmoved T.F_Lmoved.kp T.b_Lmoved .nil pass0 (pa_cons (pe_ix (ix_listK (K := K)) (pv 3) (pv 7) (fun _ _ => rfl)) (pa_cons (pv 8) (pa_cons (pv 9) (pa_cons (pv 10) (pa_cons (pv 11) pa_nil))))))))
      pss_nil)
      (pss_cons (ps_if (pt_not (pt_val (pe_callB (cr_allK (K := K) rfl) (by rfl) T.b.all (by decide +kernel) (pa_cons (pe_lc (own := [("_law_name_here", 13)]) (g := gName 13) rfl sc_Law.nd (pi_tup (pe_tup (pa_cons (pv 9) (pa_cons (pv 10) (pa_cons pe_str (pa_cons pe_str pa_nil)))))) (blkOk_by (own := [("_law_name_here", 13)]) (N := N_Law) (sc := defScope s_Law) (by decide +kernel)) (fun _ _ _ _ _ => pg_name (i := 13) sc_Law.nd rfl (Or.inl rfl)) (fun _ _ _ _ _ => pts_nil) (fun _ _ _ _ _ => (pe_call G_Lstrange (hr.mono (by omega)) (by rfl) T.m_Lstrange T.F_Lstrange.kp T.b_Lstrange .nil pass0 (pa_cons (pe_ix (ix_listK (K := K)) (pv 2) (pv 7) (fun _ _ => rfl)) (pa_cons (pv 13) (pa_cons (pe_ix (ix_listK (K := K)) (pv 3) (pv 7) (fun _ _ => rfl)) pa_nil)))))) pa_nil))))
      (pss_one (ps_ret pe_bl))
      pss_nil)
      (pss_one (ps_if (PW.pt (pw_or (pt_not (pt_val (pe_call G_Lright (hr.mono (by omega)) (by rfl) T.m_Lright T.F_Lright.kp T.b_Lright .nil pass0 (pa_cons (pe_ix (ix_listK (K := K)) (pv 2) pe_int (fun _ _ => rfl)) (pa_cons (pe_ix (ix_listK (K := K)) (pv 3) pe_int (fun _ _ => rfl)) pa_nil))))) (pw_or1 (pt_not (pt_val (pe_call G_Lright (hr.mono (by omega)) (by rfl) T.m_Lright T.F_Lright.kp T.b_Lright .nil pass0 (pa_cons (pe_ix (ix_listK (K := K)) (pv 2) pe_int (fun _ _ => rfl)) (pa_cons (pe_ix (ix_listK (K := K)) (pv 3) pe_int (fun _ _ => rfl)) pa_nil))))))))
      (pss_one (ps_ret pe_bl))
      pss_nil)))))))))))))
      (pss_one (ps_ret pe_bl))))))), ?_⟩
    refine q_feed rfl hS hlen fun l fs G1 H1 hok g1 h_feed_here => ?_
    refine qAsg (lst2 (mk_new (B := B) (K := K) (mg := mg) fun p0 d0 H2 s2 n1 n2 P0 => mk_new (B := B) (K := K) (mg := mg) fun p1 d1 H3 s3 n3 n4 P1 => fun bl hbl => ?_))
    refine qAsg (lst2 fun e0 he0 e1 he1 ml hml => ?_)
    have S4 := Sb.new (o := .lst [.ref p0, .ref p1]) hbl
    have S5 := Sb.new (o := .dK []) he0
    have S6 := Sb.new (o := .dK []) he1
    have S7 := Sb.new (o := .lst [.ref e0, .ref e1]) hml
    have W0 : Wd B G1 (upd (upd (upd (upd H3 bl (.lst [.ref p0, .ref p1])) e0 (.dK [])) e1 (.dK [])) ml (.lst [.ref e0, .ref e1])) (pr p0 p1) (pr d0 d1) (pr e0 e1) bl ml (fun _ => []) (fun _ => []) := by
      have x0 := (P0.sb (s3.trans S4)).2.1
      have x1 := (P1.sb S4).2.1
      have y0 := S5 _ _ x0
      have y1 := S5 _ _ x1
      have h00 : d0 ≠ d1 := fun h => by have := P0.2.1; rw [h, n4] at this; cases this
      have hee : e0 ≠ e1 := fun h => by rw [← h, upd_same] at he1; cases he1
      refine ⟨g1.s.trans (s2.trans (s3.trans (S4.trans (S5.trans (S6.trans S7))))), fun k => ?_, fun k => ?_, S7 _ _ (S6 _ _ (S5 _ _ upd_same)), upd_same, fun k => ?_, fun k => ?_, fun j k h => ?_, fun j k h => ?_, fun k j h => ?_⟩
      · cases k
        · exact P0.sb (s3.trans (S4.trans (S5.trans (S6.trans S7))))
        · exact P1.sb (S4.trans (S5.trans (S6.trans S7)))
      · cases k
        · exact S7 _ _ (S6 _ _ upd_same)
        · exact S7 _ _ upd_same
      · cases k
        · exact g1.s.none n2
        · exact (g1.s.trans s2).none n4
      · cases k
        · exact (g1.s.trans (s2.trans (s3.trans S4))).none he0
        · exact (g1.s.trans (s2.trans (s3.trans (S4.trans S5)))).none he1
      · cases j <;> cases k <;> first | exact (h rfl).elim | exact h00 | exact Ne.symm h00
      · cases j <;> cases k <;> first | exact (h rfl).elim | exact hee | exact Ne.symm hee
      · cases k <;> cases j
        · have h : d0 = e0 := h
          rw [h, he0] at x0; cases x0
        · have h : d0 = e1 := h
          rw [h, he1] at y0; cases y0
        · have h : d1 = e0 := h
          rw [h, he0] at x1; cases x1
        · have h : d1 = e1 := h
          rw [h, he1] at y1; cases y1
    show tSeq _ _ _ [some (.ref a), some (.ref l), some (.ref bl), some (.ref ml), none, none, none, none, none, none, none, none, none, none] _
    generalize upd (upd (upd (upd H3 bl (.lst [.ref p0, .ref p1])) e0 (.dK [])) e1 (.dK [])) ml (.lst [.ref e0, .ref e1]) = H8 at W0 ⊢
    generalize pr p0 p1 = p at W0
    generalize pr d0 d1 = d at W0
    generalize pr e0 e1 = e at W0
    have q1 := nth_ok hok (i := 1) (by omega) (by omega)
    obtain ⟨sc, hsc, hsl, hsh⟩ : ∃ sc : Int, ([1, 1, 10 ^ 9] : List Int).getD (nth fs 1 % 3).toNat 0 = sc ∧ 0 ≤ sc ∧ sc ≤ 1000000000 := by
      refine ⟨_, rfl, ?_⟩
      rcases (by omega : nth fs 1 % 3 = 0 ∨ nth fs 1 % 3 = 1 ∨ nth fs 1 % 3 = 2) with h | h | h <;> rw [h] <;> decide
    refine q_asg (ev_op ((ev_lst (ea_cons ev_int (ea_cons ev_int (ea_cons (ev_op ev_int ev_int (rd_pow (by walk_at "arith"))) ea_nil))) (by walk_at "arith"))).dat (ev_op (ev_op (ev_var rfl h_feed_here) ev_int (rd_ixL (by walk_at "at"))) ev_int (rd_mod (by walk_at "arith"))) (rd_ixL (d := .int sc) (by rw [← hsc]; exact atI_int (ns := [1, 1, 10 ^ 9]) (by omega) (by show _ < (3 : Int); omega)))) W0.s fun v G2 H2 g2 h_scale => ?_
    obtain rfl := h_scale.int_eq
    have W0 := W0.step g2
    have h_feed_here := h_feed_here.mono g2.g
    have q0 := nth_ok hok (i := 0) (by omega) (by omega)
    refine q_forR [d false, d true, e false, e true] (fun n σ' G' H' => ∃ (v5 v6 v7 v8 v9 v10 v11 v12 v13 : Option V) (m : Bool → Mp), σ' = [some (.ref a), some (.ref l), some (.ref bl), some (.ref ml), some (.int sc), v5, v6, v7, v8, v9, v10, v11, v12, v13] ∧ Wd B G' H' p d e bl ml m m ∧ ∀ k, (m k).length ≤ n)
      (ea_cons (ev_op (ev_op (ev_var rfl h_feed_here) ev_int (rd_ixL (by walk_at "at"))) ev_int (rd_mod (by walk_at "arith"))) ea_nil) (by omega) W0.s (fun G3 H3 g3 => ⟨none, none, none, none, none, none, none, none, none, _, rfl, W0.step g3, fun _ => Nat.zero_le _⟩) (fun G3 H3 g3 n σ' G4 H4 hn gg I => ?_) (fun σ' G4 H4 gg I => ?_)
    · obtain ⟨v5, v6, v7, v8, v9, v10, v11, v12, v13, m, rfl, W, hml2⟩ := I
      have h_feed_here := (h_feed_here.mono g3.g).mono gg.g
      have h_turn : ∀ G, Dx G (.int (n : Int)) (.int (n : Int)) := fun _ => .int _
      have h_scale : ∀ G, Dx G (.int sc) (.int sc) := fun _ => .int _
      have hn31 : (n : Int) < 31 := by omega
      refine q_asg ((fun h_turn => (ev_op ev_int (ev_op ev_int (ev_var rfl h_turn) (rd_mul (by walk_at "arith"))) rd_add)) (h_turn _)) W.s fun v G5 H5 g5 hv => ?_
      obtain rfl := hv.int_eq
      have W := W.step g5
      have h_feed_here := h_feed_here.mono g5.g
      have gg := gg.trans g5.any
      have h_at : ∀ G, Dx G (.int (10 + 6 * (n : Int))) (.int (10 + 6 * (n : Int))) := fun _ => .int _
      obtain ⟨kb, hkb⟩ : ∃ kb : Bool, nth fs (10 + 6 * (n : Int)) % 2 = if kb then 1 else 0 := by
        rcases (by omega : nth fs (10 + 6 * (n : Int)) % 2 = 0 ∨ nth fs (10 + 6 * (n : Int)) % 2 = 1) with h | h
        · exact ⟨false, h⟩
        · exact ⟨true, h⟩
      have qa := nth_ok hok (i := 10 + 6 * (n : Int)) (by omega) (by omega)
      have qb := nth_ok hok (i := 10 + 6 * (n : Int) + 1) (by omega) (by omega)
      have qc := nth_ok hok (i := 10 + 6 * (n : Int) + 2) (by omega) (by omega)
      have qd := nth_ok hok (i := 10 + 6 * (n : Int) + 3) (by omega) (by omega)
      have q2 := nth_ok hok (i := 2) (by omega) (by omega)
      refine q_asg (ev_is ((fun h_at => (ev_op (ev_op (ev_var rfl h_feed_here) (ev_var rfl h_at) (rd_ixL (by walk_at "at"))) ev_int (rd_mod (by walk_at "arith")))) (h_at _)) (by rw [hkb])) W.s fun v G6 H6 g6 hv => ?_
      obtain rfl := hv.int_eq
      have W := W.step g6
      have h_feed_here := h_feed_here.mono g6.g
      have gg := gg.trans g6.any
      obtain ⟨way, hwd, hway⟩ : ∃ way : Int, ([0, 1, 2, 3, 3] : List Int).getD (nth fs (10 + 6 * (n : Int)) / 2 % 5).toNat 0 = way ∧ (way = 0 ∨ way = 1 ∨ way = 2 ∨ way = 3) := by
        refine ⟨_, rfl, ?_⟩
        rcases (by omega : nth fs (10 + 6 * (n : Int)) / 2 % 5 = 0 ∨ nth fs (10 + 6 * (n : Int)) / 2 % 5 = 1 ∨ nth fs (10 + 6 * (n : Int)) / 2 % 5 = 2 ∨ nth fs (10 + 6 * (n : Int)) / 2 % 5 = 3 ∨ nth fs (10 + 6 * (n : Int)) / 2 % 5 = 4) with h | h | h | h | h <;> rw [h] <;> decide
      refine q_asg (ev_op ((ev_lst (ea_cons ev_int (ea_cons ev_int (ea_cons ev_int (ea_cons ev_int (ea_cons ev_int ea_nil))))) (by walk_at "arith"))).dat ((fun h_at => (ev_op (ev_op (ev_op (ev_var rfl h_feed_here) (ev_var rfl h_at) (rd_ixL (by walk_at "at"))) ev_int (rd_fdiv (by walk_at "arith"))) ev_int (rd_mod (by walk_at "arith")))) (h_at _)) (rd_ixL (d := .int way) (by rw [← hwd]; exact atI_int (ns := [0, 1, 2, 3, 3]) (by omega) (by show _ < (5 : Int); omega)))) W.s fun v G7 H7 g7 hv => ?_
      obtain rfl := hv.int_eq
      have W := W.step g7
      have h_feed_here := h_feed_here.mono g7.g
      have gg := gg.trans g7.any
      refine q_asg (ev_op (ev_lst (ea_cons (ev_call (nth fs 2, nth fs (10 + 6 * (n : Int) + 1) % 9) (ea_cons (ev_op (ev_var rfl h_feed_here) ev_int (rd_ixL (by walk_at "at"))) (ea_cons ((fun h_at => (ev_op (ev_op (ev_var rfl h_feed_here) (ev_op (ev_var rfl h_at) ev_int rd_add) (rd_ixL (by walk_at "at"))) ev_int (rd_mod (by walk_at "arith")))) (h_at _)) ea_nil)) ⟨q2, by constructor <;> omega⟩) (ea_cons ev_str ea_nil)) (by show 2 ≤ 100000; decide)).dat
        (ev_cb (ea_cons ((fun h_at => (ev_op (ev_op (ev_op (ev_op (ev_var rfl h_feed_here) (ev_op (ev_var rfl h_at) ev_int rd_add) (rd_ixL (by walk_at "at"))) ev_int (rd_fdiv (by walk_at "arith"))) ev_int (rd_mod (by walk_at "arith"))) ev_int rd_eqI)) (h_at _)) ea_nil) cd_intB) (rd_ixL (d := .str (if decide (nth fs (10 + 6 * (n : Int) + 1) / 9 % 12 = 5) = true then "nobody" else nm (nth fs 2) (nth fs (10 + 6 * (n : Int) + 1) % 9))) (by cases decide (nth fs (10 + 6 * (n : Int) + 1) / 9 % 12 = 5) <;> rfl))) W.s fun v G8 H8 g8 hv => ?_
      obtain rfl := hv.str_eq
      have W := W.step g8
      have h_feed_here := h_feed_here.mono g8.g
      have gg := gg.trans g8.any
      generalize (if decide (nth fs (10 + 6 * (n : Int) + 1) / 9 % 12 = 5) = true then "nobody" else nm (nth fs 2) (nth fs (10 + 6 * (n : Int) + 1) % 9) : Str) = one
      have h_one : ∀ G, Dx G (.str one) (.str one) := fun _ => .str _
      obtain ⟨jj, hjd, hj0, hj1⟩ : ∃ jj : Int, ([0, 0, 0, 0, 0, 0, 1, 2] : List Int).getD (nth fs (10 + 6 * (n : Int) + 2) / 9 % 8).toNat 0 = jj ∧ 0 ≤ jj ∧ jj < 3 := by
        refine ⟨_, rfl, ?_⟩
        rcases (by omega : nth fs (10 + 6 * (n : Int) + 2) / 9 % 8 = 0 ∨ nth fs (10 + 6 * (n : Int) + 2) / 9 % 8 = 1 ∨ nth fs (10 + 6 * (n : Int) + 2) / 9 % 8 = 2 ∨ nth fs (10 + 6 * (n : Int) + 2) / 9 % 8 = 3 ∨ nth fs (10 + 6 * (n : Int) + 2) / 9 % 8 = 4 ∨ nth fs (10 + 6 * (n : Int) + 2) / 9 % 8 = 5 ∨ nth fs (10 + 6 * (n : Int) + 2) / 9 % 8 = 6 ∨ nth fs (10 + 6 * (n : Int) + 2) / 9 % 8 = 7) with h | h | h | h | h | h | h | h <;> rw [h] <;> decide
      refine q_asg (ev_op (ev_lst (ea_cons (ev_call (nth fs 2, nth fs (10 + 6 * (n : Int) + 2) % 9) (ea_cons (ev_op (ev_var rfl h_feed_here) ev_int (rd_ixL (by walk_at "at"))) (ea_cons ((fun h_at => (ev_op (ev_op (ev_var rfl h_feed_here) (ev_op (ev_var rfl h_at) ev_int rd_add) (rd_ixL (by walk_at "at"))) ev_int (rd_mod (by walk_at "arith")))) (h_at _)) ea_nil)) ⟨q2, by constructor <;> omega⟩) (ea_cons ev_str (ea_cons (ev_var rfl (h_one _)) ea_nil))) (by show 3 ≤ 100000; decide)).dat
        (ev_op ((ev_lst (ea_cons ev_int (ea_cons ev_int (ea_cons ev_int (ea_cons ev_int (ea_cons ev_int (ea_cons ev_int (ea_cons ev_int (ea_cons ev_int ea_nil)))))))) (by walk_at "arith"))).dat ((fun h_at => (ev_op (ev_op (ev_op (ev_var rfl h_feed_here) (ev_op (ev_var rfl h_at) ev_int rd_add) (rd_ixL (by walk_at "at"))) ev_int (rd_fdiv (by walk_at "arith"))) ev_int (rd_mod (by walk_at "arith")))) (h_at _)) (rd_ixL (d := .int jj) (by rw [← hjd]; exact atI_int (ns := [0, 0, 0, 0, 0, 0, 1, 2]) (by omega) (by show _ < (8 : Int); omega)))) (rd_ixL (atI_strs (zs := [nm (nth fs 2) (nth fs (10 + 6 * (n : Int) + 2) % 9), "nobody", one]) (by omega) (by show _ < (3 : Int); omega)))) W.s fun v G9 H9 g9 hv => ?_
      obtain rfl := hv.str_eq
      have W := W.step g9
      have h_feed_here := h_feed_here.mono g9.g
      have gg := gg.trans g9.any
      generalize ([nm (nth fs 2) (nth fs (10 + 6 * (n : Int) + 2) % 9), "nobody", one].getD jj.toNat default : Str) = other
      refine q_asg ((fun h_at h_scale => (ev_op (ev_var rfl h_scale) (ev_op (ev_op (ev_op (ev_var rfl h_feed_here) (ev_op (ev_var rfl h_at) ev_int rd_add) (rd_ixL (by walk_at "at"))) ev_int (rd_mod (by walk_at "arith"))) ev_int rd_sub) (rd_mul (by walk_at "arith")))) (h_at _) (h_scale _)) W.s fun v G10 H10 g10 hv => ?_
      obtain rfl := hv.int_eq
      have W := W.step g10
      have gg := gg.trans g10.any
      generalize sc * (nth fs (10 + 6 * (n : Int) + 3) % 64 - 3) = coins
      -- the due
      refine qAsg (rxl rfl W.Ml rfl ⟨_, rfl, _, rfl, _, rfl, _, rfl, e kb, m kb, way, one, other, coins, rfl, W.E kb, hway, fun H11 s11 => ?_⟩)
      have g11 := gr_sb W.s s11
      have W := W.step g11
      have gg := gg.trans g11.any
      have hr5 : (m kb).length < 900 := by have := hml2 kb; omega
      have hr5 : (m kb).length < 900 := by have := hml2 kb; omega
      have h5 : (m kb).length + 1 < 1000 := by omega
      refine qWhen (rxl rfl W.Bl rfl ⟨_, rfl, _, rfl, _, rfl, _, rfl, p kb, d kb, m kb, way, one, other, coins, rfl, W.P kb, fun kk hk H12 s12 => ?_, fun m' hm' H12 s12 => ?_⟩)
      · -- refused
        have W := W.step (gr_sb W.s s12)
        have gg := gg.trans (gr_sb (Sb.trans (fun _ _ e => e) gg.s) s12).any
        refine ⟨_, rfl, rd_neS G10 H12 _ _ W.s (.str _) (.str _) _ fun v G13 H13 g13 hv => ?_⟩
        refine ⟨_, hv.bl_eq, ifF (by rw [due_err hway hk, decide_eq_true rfl]; rfl) ?_⟩
        have W := W.step g13
        have gg := gg.trans g13.any
        refine q_when (b := false) (evt_is (et_test (ev_op (ev_var rfl (.str _)) ev_str rd_eqS)) (by rw [due_err hway hk]; cases kk <;> decide)) W.s (fun hb => by cases hb) (fun _ G14 H14 g14 => ?_)
        have W := W.step g14
        have gg := gg.trans g14.any
        have hlen2 : ∀ k, (m k).length ≤ n + 1 := fun k => Nat.le_succ_of_le (hml2 k)
        refine q_when (b := false) (evt_is (et_not (et_B (ev_cb (ea_cons (ev_lcTn (ds := [.str one, .str other, .str "nobody", .str ""]) (fun _ => true) (fun _ => .bool true) (ev_tup (ea_cons (ev_var rfl (.str one)) (ea_cons (ev_var rfl (.str other)) (ea_cons ev_str (ea_cons ev_str ea_nil)))) (by show 4 ≤ 100000; decide)) (by show 4 ≤ 40000; decide) (fun _ => rfl) (fun _ _ _ _ _ _ _ _ => et_yes)
          (fun i z x G15 H15 g15 hz hx _ => by
            obtain ⟨zz, rfl⟩ := four_str hz
            obtain rfl := hx.str_eq
            exact ev_strange (k := kb) (z := zz) (W.step g15) rfl rfl rfl rfl)).dat ea_nil) (cd_all' (given_true _))))) (by rw [all_rep]; rfl)) W.s (fun hb => by cases hb) (fun _ G15 H15 g15 => ?_)
        have W := W.step g15
        have gg := gg.trans g15.any
        refine s_if (b := false) (evt_is (et_or (b := !true) (c := !true) (et_not (et_B (ev_right false W (by have := hlen2 false; omega) rfl rfl))) (fun _ => et_not (et_B (ev_right true W (by have := hlen2 true; omega) rfl rfl)))) rfl) W.s (fun hb => by cases hb) (fun _ G16 H16 g16 => nxI ?_)
        exact ⟨G16, gg.trans g16.any, _, _, _, _, _, _, _, _, _, _, rfl, W.step g16, hlen2⟩
      · -- done
        have W := (W.step (gr_sb W.s s12)).putD kb (m' := m') (by have := len_do hm'; omega)
        have gg := (gg.trans (gr_sb (Sb.trans (fun _ _ e => e) gg.s) s12).any).write (o := .dK (kvM m')) (Or.inl (mem_d kb)) (W.nd kb)
        refine ⟨_, rfl, rd_neS G10 _ _ _ W.s (.str _) (.str _) _ fun v G13 H13 g13 hv => ?_⟩
        refine ⟨_, hv.bl_eq, ifF (by rw [due_ok hway hm']; decide) ?_⟩
        have W := W.step g13
        have gg := gg.trans g13.any
        refine q_when (b := true) (evt_is (et_test (ev_op (ev_var rfl (.str _)) ev_str rd_eqS)) (by rw [due_ok hway hm']; decide)) W.s (fun _ G14 H14 g14 => ?_) (fun hb => by cases hb)
        have W := W.step g14
        have gg := gg.trans g14.any
        refine rxl rfl W.Ml rfl ⟨_, rfl, _, rfl, _, rfl, _, rfl, e kb, m kb, m', way, one, other, coins, rfl, W.E kb, hr5, hway, hm', fun H15 s15 => ?_⟩
        have gx := gr_sb W.s s15
        have gg := (gg.trans gx.any).write (o := .dK (kvM m')) (Or.inl (mem_e kb)) (W.ne kb)
        have W := (W.step gx).putE kb (m' := m')
        have hlen2 : ∀ k, (up1 m kb m' k).length ≤ n + 1 := fun k => by
          by_cases h : k = kb
          · subst h
            rw [up1_same]
            have := len_do hm'
            have := hml2 k
            omega
          · rw [up1_ne h]; exact Nat.le_succ_of_le (hml2 k)
        generalize up1 m kb m' = m2 at W hlen2
        dsimp only
        refine q_when (b := false) (evt_is (et_not (et_B (ev_cb (ea_cons (ev_lcTn (ds := [.str one, .str other, .str "nobody", .str ""]) (fun _ => true) (fun _ => .bool true) (ev_tup (ea_cons (ev_var rfl (.str one)) (ea_cons (ev_var rfl (.str other)) (ea_cons ev_str (ea_cons ev_str ea_nil)))) (by show 4 ≤ 100000; decide)) (by show 4 ≤ 40000; decide) (fun _ => rfl) (fun _ _ _ _ _ _ _ _ => et_yes)
          (fun i z x G15 H15 g15 hz hx _ => by
            obtain ⟨zz, rfl⟩ := four_str hz
            obtain rfl := hx.str_eq
            exact ev_strange (k := kb) (z := zz) (W.step g15) rfl rfl rfl rfl)).dat ea_nil) (cd_all' (given_true _))))) (by rw [all_rep]; rfl)) W.s (fun hb => by cases hb) (fun _ G15 H15 g15 => ?_)
        have W := W.step g15
        have gg := gg.trans g15.any
        refine s_if (b := false) (evt_is (et_or (b := !true) (c := !true) (et_not (et_B (ev_right false W (by have := hlen2 false; omega) rfl rfl))) (fun _ => et_not (et_B (ev_right true W (by have := hlen2 true; omega) rfl rfl)))) rfl) W.s (fun hb => by cases hb) (fun _ G16 H16 g16 => nxI ?_)
        exact ⟨G16, gg.trans g16.any, _, _, _, _, _, _, _, _, _, _, rfl, W.step g16, hlen2⟩
    · exact s_ret (G := fun _ => none) ev_bl emp_sb fun v G5 H5 g5 hv => by
        obtain ⟨v5, v6, v7, v8, v9, v10, v11, v12, v13, m, rfl, W, hml2⟩ := I
        obtain rfl := hv.bl_eq
        exact k H5

end
theorem all_mk {l : PySem.W.OpenLaw} {w : World} {K : PySem.W.Frag} {h : Heap} {mg : Str → Option Value} {fa f0 f1 f2 f3 f4 f5 f6 f7 f8 f9 f10 f11 f12 f13 f14 f15 f16 f17 f18 f19 f20 f21 f22 C cH cTaken cBadCoins cNoHouse cNoCoins : Addr} (X : K.In h) (G : h.Ns mainGlobals mg) (hfa : mg "law" = some (.ref fa))
    {od0 an0 od1 an1 od2 an2 od3 an3 od4 an4 od5 an5 od6 an6 od7 an7 od8 an8 od9 an9 od10 an10 od11 an11 od12 an12 od13 an13 od14 an14 od15 an15 od16 an16 od17 an17 od18 an18 od19 an19 od20 an20 od21 an21 od22 an22 : Option Addr} {sl0 sl1 sl2 sl3 sl4 sl5 sl6 sl7 sl8 sl9 sl10 sl11 sl12 sl13 sl14 sl15 sl16 sl17 sl18 sl19 sl20 sl21 sl22 : Array (Option Value)} {oc0 kV0 dc0 pm0 cd0 ct0 oc1 kV1 dc1 pm1 cd1 ct1 oc2 kV2 dc2 pm2 cd2 ct2 oc3 kV3 dc3 pm3 cd3 ct3 oc4 kV4 dc4 pm4 cd4 ct4 oc5 kV5 dc5 pm5 cd5 ct5 oc6 kV6 dc6 pm6 cd6 ct6 oc7 kV7 dc7 pm7 cd7 ct7 oc8 kV8 dc8 pm8 cd8 ct8 oc9 kV9 dc9 pm9 cd9 ct9 oc10 kV10 dc10 pm10 cd10 ct10 oc11 kV11 dc11 pm11 cd11 ct11 oc12 kV12 dc12 pm12 cd12 ct12 oc13 kV13 dc13 pm13 cd13 ct13 oc14 kV14 dc14 pm14 cd14 ct14 oc15 kV15 dc15 pm15 cd15 ct15 oc16 kV16 dc16 pm16 cd16 ct16 oc17 kV17 dc17 pm17 cd17 ct17 oc18 kV18 dc18 pm18 cd18 ct18 oc19 kV19 dc19 pm19 cd19 ct19 oc20 kV20 dc20 pm20 cd20 ct20 oc21 kV21 dc21 pm21 cd21 ct21 oc22 kV22 dc22 pm22 cd22 ct22 : Value}
    {nm19 qn19 nm20 qn20 nm21 qn21 nm22 qn22 : Str} {N19 N20 N21 N22 : Addr} {bs19 sub19 bs20 sub20 bs21 sub21 bs22 sub22 : List Value} {sn19 sn20 sn21 sn22 : List Str} {ab19 ab20 ab21 ab22 : Bool} {col19 col20 col21 col22 : Option Bool} {dd19 dd20 dd21 dd22 : Option Addr} {m019 m119 m219 m319 m519 m020 m120 m220 m320 m520 m021 m121 m221 m321 m521 m022 m122 m222 m322 m522 : Option Value}
    (a0 : PySem.W.nsIn K mainGlobals "check_amount" = some (some (.ref f0)))
    (l0 : K.lookup f0 = some ⟨oc0, od0, .func (PySem.W.fnOf "check_amount" "check_amount" (defArgs s_check_amount) (defBody s_check_amount) (defScope s_check_amount) .none kV0 dc0 pm0 an0 cd0 ct0), sl0⟩)
    (c0 : PySem.W.codeIn K cd0 "check_amount" = true)
    (k0 : PySem.W.keepIn K (.ref f0) = true)
    (a1 : PySem.W.nsIn K mainGlobals "_law_feed" = some (some (.ref f1)))
    (l1 : K.lookup f1 = some ⟨oc1, od1, .func (PySem.W.fnOf "_law_feed" "_law_feed" (defArgs s_Lfeed) (defBody s_Lfeed) (defScope s_Lfeed) .none kV1 dc1 pm1 an1 cd1 ct1), sl1⟩)
    (c1 : PySem.W.codeIn K cd1 "_law_feed" = true)
    (k1 : PySem.W.keepIn K (.ref f1) = true)
    (a2 : PySem.W.nsIn K mainGlobals "_law_name" = some (some (.ref f2)))
    (l2 : K.lookup f2 = some ⟨oc2, od2, .func (PySem.W.fnOf "_law_name" "_law_name" (defArgs s_Lname) (defBody s_Lname) (defScope s_Lname) .none kV2 dc2 pm2 an2 cd2 ct2), sl2⟩)
    (c2 : PySem.W.codeIn K cd2 "_law_name" = true)
    (k2 : PySem.W.keepIn K (.ref f2) = true)
    (a3 : PySem.W.nsIn K mainGlobals "_law_same" = some (some (.ref f3)))
    (l3 : K.lookup f3 = some ⟨oc3, od3, .func (PySem.W.fnOf "_law_same" "_law_same" (defArgs s_Lsame) (defBody s_Lsame) (defScope s_Lsame) .none kV3 dc3 pm3 an3 cd3 ct3), sl3⟩)
    (c3 : PySem.W.codeIn K cd3 "_law_same" = true)
    (k3 : PySem.W.keepIn K (.ref f3) = true)
    (a4 : PySem.W.nsIn K mainGlobals "_law_do" = some (some (.ref f4)))
    (l4 : K.lookup f4 = some ⟨oc4, od4, .func (PySem.W.fnOf "_law_do" "_law_do" (defArgs s_Ldo) (defBody s_Ldo) (defScope s_Ldo) .none kV4 dc4 pm4 an4 cd4 ct4), sl4⟩)
    (c4 : PySem.W.codeIn K cd4 "_law_do" = true)
    (k4 : PySem.W.keepIn K (.ref f4) = true)
    (a5 : PySem.W.nsIn K mainGlobals "_law_kinds" = some (some (.ref f5)))
    (l5 : K.lookup f5 = some ⟨oc5, od5, .func (PySem.W.fnOf "_law_kinds" "_law_kinds" (defArgs s_Lkinds) (defBody s_Lkinds) (defScope s_Lkinds) .none kV5 dc5 pm5 an5 cd5 ct5), sl5⟩)
    (c5 : PySem.W.codeIn K cd5 "_law_kinds" = true)
    (k5 : PySem.W.keepIn K (.ref f5) = true)
    (a6 : PySem.W.nsIn K mainGlobals "_law_due" = some (some (.ref f6)))
    (l6 : K.lookup f6 = some ⟨oc6, od6, .func (PySem.W.fnOf "_law_due" "_law_due" (defArgs s_Ldue) (defBody s_Ldue) (defScope s_Ldue) .none kV6 dc6 pm6 an6 cd6 ct6), sl6⟩)
    (c6 : PySem.W.codeIn K cd6 "_law_due" = true)
    (k6 : PySem.W.keepIn K (.ref f6) = true)
    (a7 : PySem.W.nsIn K mainGlobals "_law_moved" = some (some (.ref f7)))
    (l7 : K.lookup f7 = some ⟨oc7, od7, .func (PySem.W.fnOf "_law_moved" "_law_moved" (defArgs s_Lmoved) (defBody s_Lmoved) (defScope s_Lmoved) .none kV7 dc7 pm7 an7 cd7 ct7), sl7⟩)
    (c7 : PySem.W.codeIn K cd7 "_law_moved" = true)
    (k7 : PySem.W.keepIn K (.ref f7) = true)
    (a8 : PySem.W.nsIn K mainGlobals "_law_strange" = some (some (.ref f8)))
    (l8 : K.lookup f8 = some ⟨oc8, od8, .func (PySem.W.fnOf "_law_strange" "_law_strange" (defArgs s_Lstrange) (defBody s_Lstrange) (defScope s_Lstrange) .none kV8 dc8 pm8 an8 cd8 ct8), sl8⟩)
    (c8 : PySem.W.codeIn K cd8 "_law_strange" = true)
    (k8 : PySem.W.keepIn K (.ref f8) = true)
    (a9 : PySem.W.nsIn K mainGlobals "_law_right" = some (some (.ref f9)))
    (l9 : K.lookup f9 = some ⟨oc9, od9, .func (PySem.W.fnOf "_law_right" "_law_right" (defArgs s_Lright) (defBody s_Lright) (defScope s_Lright) .none kV9 dc9 pm9 an9 cd9 ct9), sl9⟩)
    (c9 : PySem.W.codeIn K cd9 "_law_right" = true)
    (k9 : PySem.W.keepIn K (.ref f9) = true)
    (a10 : PySem.W.nsIn K mainGlobals "law" = some (some (.ref f10)))
    (l10 : K.lookup f10 = some ⟨oc10, od10, .func (PySem.W.fnOf "law" "law" (defArgs s_Law) (defBody s_Law) (defScope s_Law) .none kV10 dc10 pm10 an10 cd10 ct10), sl10⟩)
    (c10 : PySem.W.codeIn K cd10 "law" = true)
    (k10 : PySem.W.keepIn K (.ref f10) = true)
    (gC : PySem.W.nsIn K mainGlobals "Purses" = some (some (.ref C)))
    (a11 : PySem.W.findIn K (.ref C) "__init__" = some (some (.ref f11)))
    (i11 : PySem.W.isFn K (.ref f11) = true)
    (l11 : K.lookup f11 = some ⟨oc11, od11, .func (PySem.W.fnOf "__init__" "Purses.__init__" (defArgs s_Minit) (defBody s_Minit) (defScope s_Minit) .none kV11 dc11 pm11 an11 cd11 ct11), sl11⟩)
    (c11 : PySem.W.codeIn K cd11 "Purses.__init__" = true)
    (k11 : PySem.W.keepIn K (.ref f11) = true)
    (a12 : PySem.W.findIn K (.ref C) "add_purse" = some (some (.ref f12)))
    (i12 : PySem.W.isFn K (.ref f12) = true)
    (l12 : K.lookup f12 = some ⟨oc12, od12, .func (PySem.W.fnOf "add_purse" "Purses.add_purse" (defArgs s_Maddpurse) (defBody s_Maddpurse) (defScope s_Maddpurse) .none kV12 dc12 pm12 an12 cd12 ct12), sl12⟩)
    (c12 : PySem.W.codeIn K cd12 "Purses.add_purse" = true)
    (k12 : PySem.W.keepIn K (.ref f12) = true)
    (a13 : PySem.W.findIn K (.ref C) "coins" = some (some (.ref f13)))
    (i13 : PySem.W.isFn K (.ref f13) = true)
    (l13 : K.lookup f13 = some ⟨oc13, od13, .func (PySem.W.fnOf "coins" "Purses.coins" (defArgs s_Mcoins) (defBody s_Mcoins) (defScope s_Mcoins) .none kV13 dc13 pm13 an13 cd13 ct13), sl13⟩)
    (c13 : PySem.W.codeIn K cd13 "Purses.coins" = true)
    (k13 : PySem.W.keepIn K (.ref f13) = true)
    (a14 : PySem.W.findIn K (.ref C) "fill" = some (some (.ref f14)))
    (i14 : PySem.W.isFn K (.ref f14) = true)
    (l14 : K.lookup f14 = some ⟨oc14, od14, .func (PySem.W.fnOf "fill" "Purses.fill" (defArgs s_Mfill) (defBody s_Mfill) (defScope s_Mfill) .none kV14 dc14 pm14 an14 cd14 ct14), sl14⟩)
    (c14 : PySem.W.codeIn K cd14 "Purses.fill" = true)
    (k14 : PySem.W.keepIn K (.ref f14) = true)
    (a15 : PySem.W.findIn K (.ref C) "spend" = some (some (.ref f15)))
    (i15 : PySem.W.isFn K (.ref f15) = true)
    (l15 : K.lookup f15 = some ⟨oc15, od15, .func (PySem.W.fnOf "spend" "Purses.spend" (defArgs s_Mspend) (defBody s_Mspend) (defScope s_Mspend) .none kV15 dc15 pm15 an15 cd15 ct15), sl15⟩)
    (c15 : PySem.W.codeIn K cd15 "Purses.spend" = true)
    (k15 : PySem.W.keepIn K (.ref f15) = true)
    (a16 : PySem.W.findIn K (.ref C) "pay" = some (some (.ref f16)))
    (i16 : PySem.W.isFn K (.ref f16) = true)
    (l16 : K.lookup f16 = some ⟨oc16, od16, .func (PySem.W.fnOf "pay" "Purses.pay" (defArgs s_Mpay) (defBody s_Mpay) (defScope s_Mpay) .none kV16 dc16 pm16 an16 cd16 ct16), sl16⟩)
    (c16 : PySem.W.codeIn K cd16 "Purses.pay" = true)
    (k16 : PySem.W.keepIn K (.ref f16) = true)
    (a17 : PySem.W.findIn K (.ref C) "total" = some (some (.ref f17)))
    (i17 : PySem.W.isFn K (.ref f17) = true)
    (l17 : K.lookup f17 = some ⟨oc17, od17, .func (PySem.W.fnOf "total" "Purses.total" (defArgs s_Mtotal) (defBody s_Mtotal) (defScope s_Mtotal) .none kV17 dc17 pm17 an17 cd17 ct17), sl17⟩)
    (c17 : PySem.W.codeIn K cd17 "Purses.total" = true)
    (k17 : PySem.W.keepIn K (.ref f17) = true)
    (a18 : PySem.W.findIn K (.ref C) "all_names" = some (some (.ref f18)))
    (i18 : PySem.W.isFn K (.ref f18) = true)
    (l18 : K.lookup f18 = some ⟨oc18, od18, .func (PySem.W.fnOf "all_names" "Purses.all_names" (defArgs s_Mallnames) (defBody s_Mallnames) (defScope s_Mallnames) .none kV18 dc18 pm18 an18 cd18 ct18), sl18⟩)
    (c18 : PySem.W.codeIn K cd18 "Purses.all_names" = true)
    (k18 : PySem.W.keepIn K (.ref f18) = true)
    (pg : PySem.W.plainGet K C Str.empty = true)
    (hd : PySem.W.hasDictIn K C = true)
    (po : PySem.W.plainOver K C = true)
    (sa : PySem.W.findIn K (.ref C) "__setattr__" = some (some (.builtin "object.__setattr__")))
    (mkk : PySem.W.makesIn K C = true)
    (kc : PySem.W.keepIn K (.ref C) = true)
    (nH : PySem.W.findIn K (.ref C) "held" = some none)
    (gH : PySem.W.nsIn K mainGlobals "HallError" = some (some (.ref cH)))
    (bH : PySem.W.subIn K (.ref cH) (.type "BaseException") = some true)
    (hH : PySem.W.hasDictIn K cH = true)
    (tH : PySem.W.typeIn K (.ref cH) = some (.type "type"))
    (hn : PySem.W.specialIn K (.builtin "object.__class__") "__get__" = some (some (.builtin "getset_descriptor.__get__")))
    (ht : PySem.W.takesIn K (.builtin "object.__class__") = some true)
    (g_Taken : PySem.W.nsIn K mainGlobals "Taken" = some (some (.ref cTaken)))
    (x_Taken : K.lookup cTaken = some (PySem.excClassObj nm19 qn19 cTaken N19 bs19 [.ref cH, .type "ValueError", .type "Exception", .type "BaseException", .type "object"] true sn19 sub19 ab19 col19 dd19 m019 m119 m219 m319 m519 "ValueError.__new__"))
    (sa_Taken : PySem.W.findIn K (.ref cTaken) "__setattr__" = some (some (.builtin "object.__setattr__")))
    (a19 : PySem.W.findIn K (.ref cTaken) "__init__" = some (some (.ref f19)))
    (ti_Taken : PySem.W.typeIn K (.ref f19) = some (.type "function"))
    (w_Taken : PySem.W.findIn K (.ref cTaken) "word" = some none)
    (l19 : K.lookup f19 = some ⟨oc19, od19, .func (PySem.W.fnOf "__init__" "Taken.__init__" (defArgs s_XTaken) (defBody s_XTaken) (defScope s_XTaken) .none kV19 dc19 pm19 an19 cd19 ct19), sl19⟩)
    (c19 : PySem.W.codeIn K cd19 "Taken.__init__" = true)
    (k19 : PySem.W.keepIn K (.ref f19) = true)
    (k_Taken : PySem.W.keepIn K (.ref cTaken) = true)
    (b_Taken : PySem.W.subIn K (.ref cTaken) (.type "BaseException") = some true)
    (t_Taken : PySem.W.typeIn K (.ref cTaken) = some (.type "type"))
    (s_Taken : PySem.W.subIn K (.ref cTaken) (.ref cH) = some true)
    (hg_Taken : PySem.W.findIn K (.ref cTaken) "__getattribute__" = some (some (.builtin "BaseException.__getattribute__")))
    (hk_Taken : PySem.W.findIn K (.ref cTaken) "__getattr__" = some none)
    (hd_Taken : PySem.W.hasDictIn K cTaken = true)
    (ha_Taken : PySem.W.findIn K (.ref cTaken) "__class__" = some (some (.builtin "object.__class__")))
    (hm_Taken : PySem.W.mroIn K cTaken (.type "object") = some true)
    (g_BadCoins : PySem.W.nsIn K mainGlobals "BadCoins" = some (some (.ref cBadCoins)))
    (x_BadCoins : K.lookup cBadCoins = some (PySem.excClassObj nm20 qn20 cBadCoins N20 bs20 [.ref cH, .type "ValueError", .type "Exception", .type "BaseException", .type "object"] true sn20 sub20 ab20 col20 dd20 m020 m120 m220 m320 m520 "ValueError.__new__"))
    (sa_BadCoins : PySem.W.findIn K (.ref cBadCoins) "__setattr__" = some (some (.builtin "object.__setattr__")))
    (a20 : PySem.W.findIn K (.ref cBadCoins) "__init__" = some (some (.ref f20)))
    (ti_BadCoins : PySem.W.typeIn K (.ref f20) = some (.type "function"))
    (w_BadCoins : PySem.W.findIn K (.ref cBadCoins) "word" = some none)
    (l20 : K.lookup f20 = some ⟨oc20, od20, .func (PySem.W.fnOf "__init__" "BadCoins.__init__" (defArgs s_XBadCoins) (defBody s_XBadCoins) (defScope s_XBadCoins) .none kV20 dc20 pm20 an20 cd20 ct20), sl20⟩)
    (c20 : PySem.W.codeIn K cd20 "BadCoins.__init__" = true)
    (k20 : PySem.W.keepIn K (.ref f20) = true)
    (k_BadCoins : PySem.W.keepIn K (.ref cBadCoins) = true)
    (b_BadCoins : PySem.W.subIn K (.ref cBadCoins) (.type "BaseException") = some true)
    (t_BadCoins : PySem.W.typeIn K (.ref cBadCoins) = some (.type "type"))
    (s_BadCoins : PySem.W.subIn K (.ref cBadCoins) (.ref cH) = some true)
    (hg_BadCoins : PySem.W.findIn K (.ref cBadCoins) "__getattribute__" = some (some (.builtin "BaseException.__getattribute__")))
    (hk_BadCoins : PySem.W.findIn K (.ref cBadCoins) "__getattr__" = some none)
    (hd_BadCoins : PySem.W.hasDictIn K cBadCoins = true)
    (ha_BadCoins : PySem.W.findIn K (.ref cBadCoins) "__class__" = some (some (.builtin "object.__class__")))
    (hm_BadCoins : PySem.W.mroIn K cBadCoins (.type "object") = some true)
    (g_NoHouse : PySem.W.nsIn K mainGlobals "NoHouse" = some (some (.ref cNoHouse)))
    (x_NoHouse : K.lookup cNoHouse = some (PySem.excClassObj nm21 qn21 cNoHouse N21 bs21 [.ref cH, .type "ValueError", .type "Exception", .type "BaseException", .type "object"] true sn21 sub21 ab21 col21 dd21 m021 m121 m221 m321 m521 "ValueError.__new__"))
    (sa_NoHouse : PySem.W.findIn K (.ref cNoHouse) "__setattr__" = some (some (.builtin "object.__setattr__")))
    (a21 : PySem.W.findIn K (.ref cNoHouse) "__init__" = some (some (.ref f21)))
    (ti_NoHouse : PySem.W.typeIn K (.ref f21) = some (.type "function"))
    (w_NoHouse : PySem.W.findIn K (.ref cNoHouse) "word" = some none)
    (l21 : K.lookup f21 = some ⟨oc21, od21, .func (PySem.W.fnOf "__init__" "NoHouse.__init__" (defArgs s_XNoHouse) (defBody s_XNoHouse) (defScope s_XNoHouse) .none kV21 dc21 pm21 an21 cd21 ct21), sl21⟩)
    (c21 : PySem.W.codeIn K cd21 "NoHouse.__init__" = true)
    (k21 : PySem.W.keepIn K (.ref f21) = true)
    (k_NoHouse : PySem.W.keepIn K (.ref cNoHouse) = true)
    (b_NoHouse : PySem.W.subIn K (.ref cNoHouse) (.type "BaseException") = some true)
    (t_NoHouse : PySem.W.typeIn K (.ref cNoHouse) = some (.type "type"))
    (s_NoHouse : PySem.W.subIn K (.ref cNoHouse) (.ref cH) = some true)
    (hg_NoHouse : PySem.W.findIn K (.ref cNoHouse) "__getattribute__" = some (some (.builtin "BaseException.__getattribute__")))
    (hk_NoHouse : PySem.W.findIn K (.ref cNoHouse) "__getattr__" = some none)
    (hd_NoHouse : PySem.W.hasDictIn K cNoHouse = true)
    (ha_NoHouse : PySem.W.findIn K (.ref cNoHouse) "__class__" = some (some (.builtin "object.__class__")))
    (hm_NoHouse : PySem.W.mroIn K cNoHouse (.type "object") = some true)
    (g_NoCoins : PySem.W.nsIn K mainGlobals "NoCoins" = some (some (.ref cNoCoins)))
    (x_NoCoins : K.lookup cNoCoins = some (PySem.excClassObj nm22 qn22 cNoCoins N22 bs22 [.ref cH, .type "ValueError", .type "Exception", .type "BaseException", .type "object"] true sn22 sub22 ab22 col22 dd22 m022 m122 m222 m322 m522 "ValueError.__new__"))
    (sa_NoCoins : PySem.W.findIn K (.ref cNoCoins) "__setattr__" = some (some (.builtin "object.__setattr__")))
    (a22 : PySem.W.findIn K (.ref cNoCoins) "__init__" = some (some (.ref f22)))
    (ti_NoCoins : PySem.W.typeIn K (.ref f22) = some (.type "function"))
    (w_NoCoins : PySem.W.findIn K (.ref cNoCoins) "word" = some none)
    (l22 : K.lookup f22 = some ⟨oc22, od22, .func (PySem.W.fnOf "__init__" "NoCoins.__init__" (defArgs s_XNoCoins) (defBody s_XNoCoins) (defScope s_XNoCoins) .none kV22 dc22 pm22 an22 cd22 ct22), sl22⟩)
    (c22 : PySem.W.codeIn K cd22 "NoCoins.__init__" = true)
    (k22 : PySem.W.keepIn K (.ref f22) = true)
    (k_NoCoins : PySem.W.keepIn K (.ref cNoCoins) = true)
    (b_NoCoins : PySem.W.subIn K (.ref cNoCoins) (.type "BaseException") = some true)
    (t_NoCoins : PySem.W.typeIn K (.ref cNoCoins) = some (.type "type"))
    (s_NoCoins : PySem.W.subIn K (.ref cNoCoins) (.ref cH) = some true)
    (hg_NoCoins : PySem.W.findIn K (.ref cNoCoins) "__getattribute__" = some (some (.builtin "BaseException.__getattribute__")))
    (hk_NoCoins : PySem.W.findIn K (.ref cNoCoins) "__getattr__" = some none)
    (hd_NoCoins : PySem.W.hasDictIn K cNoCoins = true)
    (ha_NoCoins : PySem.W.findIn K (.ref cNoCoins) "__class__" = some (some (.builtin "object.__class__")))
    (hm_NoCoins : PySem.W.mroIn K cNoCoins (.type "object") = some true)
    (nn : PySem.W.subIn K (.ref cNoHouse) (.ref cNoHouse) = some true)
    (kk_Taken_Taken : PySem.W.kitOne K (.ref cTaken) (.ref cTaken) = some true)
    (kk_Taken_BadCoins : PySem.W.kitOne K (.ref cTaken) (.ref cBadCoins) = some false)
    (kk_Taken_NoHouse : PySem.W.kitOne K (.ref cTaken) (.ref cNoHouse) = some false)
    (kk_Taken_NoCoins : PySem.W.kitOne K (.ref cTaken) (.ref cNoCoins) = some false)
    (kk_BadCoins_Taken : PySem.W.kitOne K (.ref cBadCoins) (.ref cTaken) = some false)
    (kk_BadCoins_BadCoins : PySem.W.kitOne K (.ref cBadCoins) (.ref cBadCoins) = some true)
    (kk_BadCoins_NoHouse : PySem.W.kitOne K (.ref cBadCoins) (.ref cNoHouse) = some false)
    (kk_BadCoins_NoCoins : PySem.W.kitOne K (.ref cBadCoins) (.ref cNoCoins) = some false)
    (kk_NoHouse_Taken : PySem.W.kitOne K (.ref cNoHouse) (.ref cTaken) = some false)
    (kk_NoHouse_BadCoins : PySem.W.kitOne K (.ref cNoHouse) (.ref cBadCoins) = some false)
    (kk_NoHouse_NoHouse : PySem.W.kitOne K (.ref cNoHouse) (.ref cNoHouse) = some true)
    (kk_NoHouse_NoCoins : PySem.W.kitOne K (.ref cNoHouse) (.ref cNoCoins) = some false)
    (kk_NoCoins_Taken : PySem.W.kitOne K (.ref cNoCoins) (.ref cTaken) = some false)
    (kk_NoCoins_BadCoins : PySem.W.kitOne K (.ref cNoCoins) (.ref cBadCoins) = some false)
    (kk_NoCoins_NoHouse : PySem.W.kitOne K (.ref cNoCoins) (.ref cNoHouse) = some false)
    (kk_NoCoins_NoCoins : PySem.W.kitOne K (.ref cNoCoins) (.ref cNoCoins) = some true)
    (z_len : PySem.W.nsIn K mainGlobals "len" = some none)
    (z_range : PySem.W.nsIn K mainGlobals "range" = some none)
    (z_abs : PySem.W.nsIn K mainGlobals "abs" = some none)
    (z_int : PySem.W.nsIn K mainGlobals "int" = some none)
    (z_sum : PySem.W.nsIn K mainGlobals "sum" = some none)
    (z_isinstance : PySem.W.nsIn K mainGlobals "isinstance" = some none)
    (z_tuple : PySem.W.nsIn K mainGlobals "tuple" = some none)
    (z_list : PySem.W.nsIn K mainGlobals "list" = some none)
    (z_all : PySem.W.nsIn K mainGlobals "all" = some none)
    (z_bool : PySem.W.nsIn K mainGlobals "bool" = some none)
    (z_max : PySem.W.nsIn K mainGlobals "max" = some none)
    (z_enumerate : PySem.W.nsIn K mainGlobals "enumerate" = some none)
    (z_sorted : PySem.W.nsIn K mainGlobals "sorted" = some none)
    (z_str : PySem.W.nsIn K mainGlobals "str" = some none)
    : ∃ fd : FuncData, (∀ (s : Shared) (v : Value), BindsTo s fd ⟨[v], []⟩ [("_law_script", v)]) ∧ ∀ base : Heap, K.In base → base.Ns mainGlobals mg → FnOk l.prog w K mg base CX0 9 fa fd ["_law_script"] (spLaw K) := by
  have e := hfa.symm.trans (PySem.W.mg_of X G a10)
  cases e
  have F0 := fun_mk (st := s_check_amount) l0 c0 k0
  have b0 := F0.binds (ps := ["coins"]) fun _ _ _ _ _ _ us hl => match us, hl with | [_], _ => rfl
  have F1 := fun_mk (st := s_Lfeed) l1 c1 k1
  have b1 := F1.binds (ps := ["_law_script"]) fun _ _ _ _ _ _ us hl => match us, hl with | [_], _ => rfl
  have F2 := fun_mk (st := s_Lname) l2 c2 k2
  have b2 := F2.binds (ps := ["_law_pick", "_law_k"]) fun _ _ _ _ _ _ us hl => match us, hl with | [_, _], _ => rfl
  have F3 := fun_mk (st := s_Lsame) l3 c3 k3
  have b3 := F3.binds (ps := ["_law_found", "_law_due_here"]) fun _ _ _ _ _ _ us hl => match us, hl with | [_, _], _ => rfl
  have F4 := fun_mk (st := s_Ldo) l4 c4 k4
  have b4 := F4.binds (ps := ["_law_purses", "_law_way", "_law_one", "_law_other", "_law_coins"]) fun _ _ _ _ _ _ us hl => match us, hl with | [_, _, _, _, _], _ => rfl
  have F5 := fun_mk (st := s_Lkinds) l5 c5 k5
  have b5 := F5.binds (ps := ["_law_purses", "_law_way", "_law_one", "_law_other", "_law_coins"]) fun _ _ _ _ _ _ us hl => match us, hl with | [_, _, _, _, _], _ => rfl
  have F6 := fun_mk (st := s_Ldue) l6 c6 k6
  have b6 := F6.binds (ps := ["_law_held", "_law_way", "_law_one", "_law_other", "_law_coins"]) fun _ _ _ _ _ _ us hl => match us, hl with | [_, _, _, _, _], _ => rfl
  have F7 := fun_mk (st := s_Lmoved) l7 c7 k7
  have b7 := F7.binds (ps := ["_law_held", "_law_way", "_law_one", "_law_other", "_law_coins"]) fun _ _ _ _ _ _ us hl => match us, hl with | [_, _, _, _, _], _ => rfl
  have F8 := fun_mk (st := s_Lstrange) l8 c8 k8
  have b8 := F8.binds (ps := ["_law_purses", "_law_name_here", "_law_held"]) fun _ _ _ _ _ _ us hl => match us, hl with | [_, _, _], _ => rfl
  have F9 := fun_mk (st := s_Lright) l9 c9 k9
  have b9 := F9.binds (ps := ["_law_purses", "_law_held"]) fun _ _ _ _ _ _ us hl => match us, hl with | [_, _], _ => rfl
  have F10 := fun_mk (st := s_Law) l10 c10 k10
  have b10 := F10.binds (ps := ["_law_script"]) fun _ _ _ _ _ _ us hl => match us, hl with | [_], _ => rfl
  have F11 := fun_mk (st := s_Minit) l11 c11 k11
  have b11 := F11.binds (ps := ["self"]) fun _ _ _ _ _ _ us hl => match us, hl with | [_], _ => rfl
  have F12 := fun_mk (st := s_Maddpurse) l12 c12 k12
  have b12 := F12.binds (ps := ["self", "name", "coins"]) fun _ _ _ _ _ _ us hl => match us, hl with | [_, _, _], _ => rfl
  have F13 := fun_mk (st := s_Mcoins) l13 c13 k13
  have b13 := F13.binds (ps := ["self", "name"]) fun _ _ _ _ _ _ us hl => match us, hl with | [_, _], _ => rfl
  have F14 := fun_mk (st := s_Mfill) l14 c14 k14
  have b14 := F14.binds (ps := ["self", "name", "coins"]) fun _ _ _ _ _ _ us hl => match us, hl with | [_, _, _], _ => rfl
  have F15 := fun_mk (st := s_Mspend) l15 c15 k15
  have b15 := F15.binds (ps := ["self", "name", "coins"]) fun _ _ _ _ _ _ us hl => match us, hl with | [_, _, _], _ => rfl
  have F16 := fun_mk (st := s_Mpay) l16 c16 k16
  have b16 := F16.binds (ps := ["self", "payer", "taker", "coins"]) fun _ _ _ _ _ _ us hl => match us, hl with | [_, _, _, _], _ => rfl
  have F17 := fun_mk (st := s_Mtotal) l17 c17 k17
  have b17 := F17.binds (ps := ["self"]) fun _ _ _ _ _ _ us hl => match us, hl with | [_], _ => rfl
  have F18 := fun_mk (st := s_Mallnames) l18 c18 k18
  have b18 := F18.binds (ps := ["self"]) fun _ _ _ _ _ _ us hl => match us, hl with | [_], _ => rfl
  have F19 := fun_mk (st := s_XTaken) l19 c19 k19
  have b19 := F19.binds (ps := ["self", "why"]) fun _ _ _ _ _ _ us hl => match us, hl with | [_, _], _ => rfl
  have F20 := fun_mk (st := s_XBadCoins) l20 c20 k20
  have b20 := F20.binds (ps := ["self", "why"]) fun _ _ _ _ _ _ us hl => match us, hl with | [_, _], _ => rfl
  have F21 := fun_mk (st := s_XNoHouse) l21 c21 k21
  have b21 := F21.binds (ps := ["self", "why"]) fun _ _ _ _ _ _ us hl => match us, hl with | [_, _], _ => rfl
  have F22 := fun_mk (st := s_XNoCoins) l22 c22 k22
  have b22 := F22.binds (ps := ["self", "why"]) fun _ _ _ _ _ _ us hl => match us, hl with | [_, _], _ => rfl
  have Tx : Txt K mg (Ad.mk _ _ _ _ _ _ _ _ _ _ _ _ _ _ _ _ _ _ _ _ _ _) := ⟨⟨PySem.W.mg_none_of X G z_len, PySem.W.mg_none_of X G z_range, PySem.W.mg_none_of X G z_abs, PySem.W.mg_none_of X G z_int, PySem.W.mg_none_of X G z_sum, PySem.W.mg_none_of X G z_isinstance, PySem.W.mg_none_of X G z_tuple, PySem.W.mg_none_of X G z_list, PySem.W.mg_none_of X G z_all, PySem.W.mg_none_of X G z_bool, PySem.W.mg_none_of X G z_max, PySem.W.mg_none_of X G z_enumerate, PySem.W.mg_none_of X G z_sorted, PySem.W.mg_none_of X G z_str⟩, PySem.W.mg_of X G a0, F0, b0, PySem.W.mg_of X G a1, F1, b1, PySem.W.mg_of X G a2, F2, b2, PySem.W.mg_of X G a3, F3, b3, PySem.W.mg_of X G a4, F4, b4, PySem.W.mg_of X G a5, F5, b5, PySem.W.mg_of X G a6, F6, b6, PySem.W.mg_of X G a7, F7, b7, PySem.W.mg_of X G a8, F8, b8, PySem.W.mg_of X G a9, F9, b9, PySem.W.mg_of X G a10, F10, b10⟩
  have X_Taken : ExT K mg "Taken" cTaken cH f19 := ⟨⟨⟨⟨_, _, _, _, _, _, _, _, _, _, _, _, _, _, _, x_Taken, rfl⟩, sa_Taken, b_Taken, t_Taken, k_Taken⟩, PySem.W.mg_of X G g_Taken, a19, ti_Taken, w_Taken⟩, PySem.W.exm_ref bH hH tH s_Taken, ⟨hg_Taken, hk_Taken, b_Taken, hd_Taken, ha_Taken, hn, ht, hm_Taken⟩⟩
  have X_BadCoins : ExT K mg "BadCoins" cBadCoins cH f20 := ⟨⟨⟨⟨_, _, _, _, _, _, _, _, _, _, _, _, _, _, _, x_BadCoins, rfl⟩, sa_BadCoins, b_BadCoins, t_BadCoins, k_BadCoins⟩, PySem.W.mg_of X G g_BadCoins, a20, ti_BadCoins, w_BadCoins⟩, PySem.W.exm_ref bH hH tH s_BadCoins, ⟨hg_BadCoins, hk_BadCoins, b_BadCoins, hd_BadCoins, ha_BadCoins, hn, ht, hm_BadCoins⟩⟩
  have X_NoHouse : ExT K mg "NoHouse" cNoHouse cH f21 := ⟨⟨⟨⟨_, _, _, _, _, _, _, _, _, _, _, _, _, _, _, x_NoHouse, rfl⟩, sa_NoHouse, b_NoHouse, t_NoHouse, k_NoHouse⟩, PySem.W.mg_of X G g_NoHouse, a21, ti_NoHouse, w_NoHouse⟩, PySem.W.exm_ref bH hH tH s_NoHouse, ⟨hg_NoHouse, hk_NoHouse, b_NoHouse, hd_NoHouse, ha_NoHouse, hn, ht, hm_NoHouse⟩⟩
  have X_NoCoins : ExT K mg "NoCoins" cNoCoins cH f22 := ⟨⟨⟨⟨_, _, _, _, _, _, _, _, _, _, _, _, _, _, _, x_NoCoins, rfl⟩, sa_NoCoins, b_NoCoins, t_NoCoins, k_NoCoins⟩, PySem.W.mg_of X G g_NoCoins, a22, ti_NoCoins, w_NoCoins⟩, PySem.W.exm_ref bH hH tH s_NoCoins, ⟨hg_NoCoins, hk_NoCoins, b_NoCoins, hd_NoCoins, ha_NoCoins, hn, ht, hm_NoCoins⟩⟩
  have Ux : Tx7 K mg (Bd.mk C _ _ _ _ _ _ _ _ _ _ _ _ _ _ _ _ cH cTaken _ _ cBadCoins _ _ cNoHouse _ _ cNoCoins _ _) := ⟨⟨pg, hd, po, sa⟩, nH, PySem.W.mg_of X G gC, ⟨mkk, a11, i11, kc⟩, PySem.W.mg_of X G gH, F11, b11, F12, b12, ⟨a12, i12, k12⟩, F13, b13, ⟨a13, i13, k13⟩, F14, b14, ⟨a14, i14, k14⟩, F15, b15, ⟨a15, i15, k15⟩, F16, b16, ⟨a16, i16, k16⟩, F17, b17, ⟨a17, i17, k17⟩, F18, b18, ⟨a18, i18, k18⟩, X_Taken, F19, b19, X_BadCoins, F20, b20, X_NoHouse, F21, b21, X_NoCoins, F22, b22, PySem.W.exm_ref b_NoHouse hd_NoHouse t_NoHouse nn, kk_Taken_Taken, kk_Taken_BadCoins, kk_Taken_NoHouse, kk_Taken_NoCoins, kk_BadCoins_Taken, kk_BadCoins_BadCoins, kk_BadCoins_NoHouse, kk_BadCoins_NoCoins, kk_NoHouse_Taken, kk_NoHouse_BadCoins, kk_NoHouse_NoHouse, kk_NoHouse_NoCoins, kk_NoCoins_Taken, kk_NoCoins_BadCoins, kk_NoCoins_NoHouse, kk_NoCoins_NoCoins⟩
  exact ⟨_, fun s v => .of_eq rfl, fun base _ _ => ok_Law Tx Ux⟩
end My
open PySem PySem.W PyProof.Rows
set_option maxRecDepth 100000 in
set_option maxHeartbeats 0 in
theorem PySem.Challenge.cw_allonge_k07_purses_holds : PySem.Challenge.rw_allonge_k07_purses.Holds := by
  w_on; o_law; k_head; (case hw => w_witness2)
  k_fill
  refine L2.walk_ofB (l := PySem.Challenge.rw_allonge_k07_purses) (n := 63) (k := 9) (x := "_law_script") (CX := fun _ => L2.CX0) (sp := fun w => My.spLaw _) rfl (by decide) rfl ⟨rfl, by decide, by decide⟩ (fun w h Y => PySem.W.kIn_of Y) ?F (fun _ _ a ns hl hb _ hS => ⟨a, ns, rfl, hS, hl, hb, fun _ => rfl⟩) (fun _ _ _ _ _ h => h)
  case F =>
    intro w mg fa h KX G hmg
    refine' My.all_mk KX G hmg ?a0 ?l0 ?c0 ?k0 ?a1 ?l1 ?c1 ?k1 ?a2 ?l2 ?c2 ?k2 ?a3 ?l3 ?c3 ?k3 ?a4 ?l4 ?c4 ?k4 ?a5 ?l5 ?c5 ?k5 ?a6 ?l6 ?c6 ?k6 ?a7 ?l7 ?c7 ?k7 ?a8 ?l8 ?c8 ?k8 ?a9 ?l9 ?c9 ?k9 ?a10 ?l10 ?c10 ?k10 ?gC ?a11 ?i11 ?l11 ?c11 ?k11 ?a12 ?i12 ?l12 ?c12 ?k12 ?a13 ?i13 ?l13 ?c13 ?k13 ?a14 ?i14 ?l14 ?c14 ?k14 ?a15 ?i15 ?l15 ?c15 ?k15 ?a16 ?i16 ?l16 ?c16 ?k16 ?a17 ?i17 ?l17 ?c17 ?k17 ?a18 ?i18 ?l18 ?c18 ?k18 ?pg ?hd ?po ?sa ?mkk ?kc ?nH ?gH ?bH ?hH ?tH ?hn ?ht ?g_Taken ?x_Taken ?sa_Taken ?a19 ?ti_Taken ?w_Taken ?l19 ?c19 ?k19 ?k_Taken ?b_Taken ?t_Taken ?s_Taken ?hg_Taken ?hk_Taken ?hd_Taken ?ha_Taken ?hm_Taken ?g_BadCoins ?x_BadCoins ?sa_BadCoins ?a20 ?ti_BadCoins ?w_BadCoins ?l20 ?c20 ?k20 ?k_BadCoins ?b_BadCoins ?t_BadCoins ?s_BadCoins ?hg_BadCoins ?hk_BadCoins ?hd_BadCoins ?ha_BadCoins ?hm_BadCoins ?g_NoHouse ?x_NoHouse ?sa_NoHouse ?a21 ?ti_NoHouse ?w_NoHouse ?l21 ?c21 ?k21 ?k_NoHouse ?b_NoHouse ?t_NoHouse ?s_NoHouse ?hg_NoHouse ?hk_NoHouse ?hd_NoHouse ?ha_NoHouse ?hm_NoHouse ?g_NoCoins ?x_NoCoins ?sa_NoCoins ?a22 ?ti_NoCoins ?w_NoCoins ?l22 ?c22 ?k22 ?k_NoCoins ?b_NoCoins ?t_NoCoins ?s_NoCoins ?hg_NoCoins ?hk_NoCoins ?hd_NoCoins ?ha_NoCoins ?hm_NoCoins ?nn ?kk_Taken_Taken ?kk_Taken_BadCoins ?kk_Taken_NoHouse ?kk_Taken_NoCoins ?kk_BadCoins_Taken ?kk_BadCoins_BadCoins ?kk_BadCoins_NoHouse ?kk_BadCoins_NoCoins ?kk_NoHouse_Taken ?kk_NoHouse_BadCoins ?kk_NoHouse_NoHouse ?kk_NoHouse_NoCoins ?kk_NoCoins_Taken ?kk_NoCoins_BadCoins ?kk_NoCoins_NoHouse ?kk_NoCoins_NoCoins ?z_len ?z_range ?z_abs ?z_int ?z_sum ?z_isinstance ?z_tuple ?z_list ?z_all ?z_bool ?z_max ?z_enumerate ?z_sorted ?z_str
    (case a0 => k_is)
    (case l0 => k_is)
    (case c0 => k_is)
    (case k0 => k_is)
    (case a1 => k_is)
    (case l1 => k_is)
    (case c1 => k_is)
    (case k1 => k_is)
    (case a2 => k_is)
    (case l2 => k_is)
    (case c2 => k_is)
    (case k2 => k_is)
    (case a3 => k_is)
    (case l3 => k_is)
    (case c3 => k_is)
    (case k3 => k_is)
    (case a4 => k_is)
    (case l4 => k_is)
    (case c4 => k_is)
    (case k4 => k_is)
    (case a5 => k_is)
    (case l5 => k_is)
    (case c5 => k_is)
    (case k5 => k_is)
    (case a6 => k_is)
    (case l6 => k_is)
    (case c6 => k_is)
    (case k6 => k_is)
    (case a7 => k_is)
    (case l7 => k_is)
    (case c7 => k_is)
    (case k7 => k_is)
    (case a8 => k_is)
    (case l8 => k_is)
    (case c8 => k_is)
    (case k8 => k_is)
    (case a9 => k_is)
    (case l9 => k_is)
    (case c9 => k_is)
    (case k9 => k_is)
    (case a10 => k_is)
    (case l10 => k_is)
    (case c10 => k_is)
    (case k10 => k_is)
    (case gC => k_is)
    (case a11 => k_is)
    (case i11 => k_is)
    (case l11 => k_is)
    (case c11 => k_is)
    (case k11 => k_is)
    (case a12 => k_is)
    (case i12 => k_is)
    (case l12 => k_is)
    (case c12 => k_is)
    (case k12 => k_is)
    (case a13 => k_is)
    (case i13 => k_is)
    (case l13 => k_is)
    (case c13 => k_is)
    (case k13 => k_is)
    (case a14 => k_is)
    (case i14 => k_is)
    (case l14 => k_is)
    (case c14 => k_is)
    (case k14 => k_is)
    (case a15 => k_is)
    (case i15 => k_is)
    (case l15 => k_is)
    (case c15 => k_is)
    (case k15 => k_is)
    (case a16 => k_is)
    (case i16 => k_is)
    (case l16 => k_is)
    (case c16 => k_is)
    (case k16 => k_is)
    (case a17 => k_is)
    (case i17 => k_is)
    (case l17 => k_is)
    (case c17 => k_is)
    (case k17 => k_is)
    (case a18 => k_is)
    (case i18 => k_is)
    (case l18 => k_is)
    (case c18 => k_is)
    (case k18 => k_is)
    (case pg => k_is)
    (case hd => k_is)
    (case po => k_is)
    (case sa => k_is)
    (case mkk => k_is)
    (case kc => k_is)
    (case nH => k_is)
    (case gH => k_is)
    (case bH => k_is)
    (case hH => k_is)
    (case tH => k_is)
    (case hn => k_is)
    (case ht => k_is)
    (case g_Taken => k_is)
    (case x_Taken => k_is)
    (case sa_Taken => k_is)
    (case a19 => k_is)
    (case ti_Taken => k_is)
    (case w_Taken => k_is)
    (case l19 => k_is)
    (case c19 => k_is)
    (case k19 => k_is)
    (case k_Taken => k_is)
    (case b_Taken => k_is)
    (case t_Taken => k_is)
    (case s_Taken => k_is)
    (case hg_Taken => k_is)
    (case hk_Taken => k_is)
    (case hd_Taken => k_is)
    (case ha_Taken => k_is)
    (case hm_Taken => k_is)
    (case g_BadCoins => k_is)
    (case x_BadCoins => k_is)
    (case sa_BadCoins => k_is)
    (case a20 => k_is)
    (case ti_BadCoins => k_is)
    (case w_BadCoins => k_is)
    (case l20 => k_is)
    (case c20 => k_is)
    (case k20 => k_is)
    (case k_BadCoins => k_is)
    (case b_BadCoins => k_is)
    (case t_BadCoins => k_is)
    (case s_BadCoins => k_is)
    (case hg_BadCoins => k_is)
    (case hk_BadCoins => k_is)
    (case hd_BadCoins => k_is)
    (case ha_BadCoins => k_is)
    (case hm_BadCoins => k_is)
    (case g_NoHouse => k_is)
    (case x_NoHouse => k_is)
    (case sa_NoHouse => k_is)
    (case a21 => k_is)
    (case ti_NoHouse => k_is)
    (case w_NoHouse => k_is)
    (case l21 => k_is)
    (case c21 => k_is)
    (case k21 => k_is)
    (case k_NoHouse => k_is)
    (case b_NoHouse => k_is)
    (case t_NoHouse => k_is)
    (case s_NoHouse => k_is)
    (case hg_NoHouse => k_is)
    (case hk_NoHouse => k_is)
    (case hd_NoHouse => k_is)
    (case ha_NoHouse => k_is)
    (case hm_NoHouse => k_is)
    (case g_NoCoins => k_is)
    (case x_NoCoins => k_is)
    (case sa_NoCoins => k_is)
    (case a22 => k_is)
    (case ti_NoCoins => k_is)
    (case w_NoCoins => k_is)
    (case l22 => k_is)
    (case c22 => k_is)
    (case k22 => k_is)
    (case k_NoCoins => k_is)
    (case b_NoCoins => k_is)
    (case t_NoCoins => k_is)
    (case s_NoCoins => k_is)
    (case hg_NoCoins => k_is)
    (case hk_NoCoins => k_is)
    (case hd_NoCoins => k_is)
    (case ha_NoCoins => k_is)
    (case hm_NoCoins => k_is)
    (case nn => first | rfl | k_is)
    (case kk_Taken_Taken => first | kit_is | k_is | rfl)
    (case kk_Taken_BadCoins => first | kit_is | k_is | rfl)
    (case kk_Taken_NoHouse => first | kit_is | k_is | rfl)
    (case kk_Taken_NoCoins => first | kit_is | k_is | rfl)
    (case kk_BadCoins_Taken => first | kit_is | k_is | rfl)
    (case kk_BadCoins_BadCoins => first | kit_is | k_is | rfl)
    (case kk_BadCoins_NoHouse => first | kit_is | k_is | rfl)
    (case kk_BadCoins_NoCoins => first | kit_is | k_is | rfl)
    (case kk_NoHouse_Taken => first | kit_is | k_is | rfl)
    (case kk_NoHouse_BadCoins => first | kit_is | k_is | rfl)
    (case kk_NoHouse_NoHouse => first | kit_is | k_is | rfl)
    (case kk_NoHouse_NoCoins => first | kit_is | k_is | rfl)
    (case kk_NoCoins_Taken => first | kit_is | k_is | rfl)
    (case kk_NoCoins_BadCoins => first | kit_is | k_is | rfl)
    (case kk_NoCoins_NoHouse => first | kit_is | k_is | rfl)
    (case kk_NoCoins_NoCoins => first | kit_is | k_is | rfl)
    (case z_len => k_is)
    (case z_range => k_is)
    (case z_abs => k_is)
    (case z_int => k_is)
    (case z_sum => k_is)
    (case z_isinstance => k_is)
    (case z_tuple => k_is)
    (case z_list => k_is)
    (case z_all => k_is)
    (case z_bool => k_is)
    (case z_max => k_is)
    (case z_enumerate => k_is)
    (case z_sorted => k_is)
    (case z_str => k_is)