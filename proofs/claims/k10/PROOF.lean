import PyProof.Rows.All
import Wide.All
import OpenK.AllK
import Wide.FinOn
import HandS.ForMost
import HandS.Flow
import HandS.Wide
import HandS.WideBits
import HandS.IsInst
import KE.KDictKeyed
import KE.KeyNested
import HandS.TupAny
import HandS.TupMul
import HandS.Dict
import HandS.More
import HandS.Comp
import HandS.Iter
import KE.GoesEnum
import KE.GoesMore
import HandS.Ends
import HandS.EndBits
import HandS.WideMore
import PyProof.Rows.Walk
import HandS.Zip
import HandS.Style
import HandS.Rev
import KE.KDictZip
import PyProof.StrOps2
import HandS.Conv
import HandS.RevRange
import PyProof.EqKinds
import PyProof.TwoTypesSub
import PyProof.AutoIntG7
import KE.GoesZip
import KE.KTupSum
import HandS.Deep
import KE.KDictPairs
import KE.SortData
import HandS.List
import KE.KDictDisplayH
import HandS.ExcOwn
import HandS.TryOnly
import HandS.ExcIs
import HandS.ExcInit
import HandS.ExcField
import KE.KExcIs
import HandS.TupLen
import HandS.TupSets
import HandS.Small
import PySem.Challenge.RW_carryladder_k10_whole_counts_of_machines
import KE.BitLaws
import KE.KBits
import KE.OsArith
import HandS.Text
import PyProof.FitsInt
import PyProof.StrLawsRepr
set_option Elab.async false
set_option linter.all false
set_option maxRecDepth 100000
set_option maxHeartbeats 8000000
/-! Mirrors: what a piece of the program does, as a function of data alone; the tie to the hand layer's readings. -/
namespace Mi
open PySem L2

/-! ### data in a heap -/
def kD : Key → PyData
  | .inl i => .int i
  | .inr x => .str x
mutual
inductive Dq (K : PySem.W.Frag) (F : Hp) : V → PyData → Prop
  | non : Dq K F .non .none
  | bl (b : Bool) : Dq K F (.bl b) (.bool b)
  | int (i : Int) : Dq K F (.int i) (.int i)
  | str (x : Str) : Dq K F (.str x) (.str x)
  | lst {a : Addr} {xs : List V} {ds : List PyData} : F a = some (.lst xs) → DqA K F xs ds → Dq K F (.ref a) (.list ds)
  | tup {a : Addr} {xs : List V} {ds : List PyData} : SqT K F a xs → DqA K F xs ds → Dq K F (.ref a) (.tuple ds)
  | dct {a : Addr} {kvs : List (Key × V)} {es : List (PyData × PyData)} : F a = some (.dK kvs) → DqK K F kvs es → Dq K F (.ref a) (.dict es)
inductive DqA (K : PySem.W.Frag) (F : Hp) : List V → List PyData → Prop
  | nil : DqA K F [] []
  | cons {v : V} {vs : List V} {d : PyData} {ds : List PyData} : Dq K F v d → DqA K F vs ds → DqA K F (v :: vs) (d :: ds)
inductive DqK (K : PySem.W.Frag) (F : Hp) : List (Key × V) → List (PyData × PyData) → Prop
  | nil : DqK K F [] []
  | cons {k : Key} {v : V} {vs : List (Key × V)} {d : PyData} {ds : List (PyData × PyData)} : Dq K F v d → DqK K F vs ds → DqK K F ((k, v) :: vs) ((kD k, d) :: ds)
end
section
variable {K : PySem.W.Frag} {F F' : Hp}
theorem same_rd {a : Addr} {u : HO} (e : Same F F') (h : Rd F a u) : Rd F' a u := by
  rcases h with h | ⟨o, h⟩
  · exact .inl (e _ _ h)
  · exact .inr ⟨o, e _ _ h⟩
theorem same_t {a : Addr} {xs : List V} (e : Same F F') (h : SqT K F a xs) : SqT K F' a xs := by
  rcases h with h | h
  · exact .inl (same_rd e h)
  · exact .inr h
mutual
theorem Dq.mono (e : Same F F') : ∀ {v : V} {d : PyData}, Dq K F v d → Dq K F' v d
  | _, _, .non => .non
  | _, _, .bl b => .bl b
  | _, _, .int i => .int i
  | _, _, .str x => .str x
  | _, _, .lst h a => .lst (e _ _ h) (DqA.mono e a)
  | _, _, .tup h a => .tup (same_t e h) (DqA.mono e a)
  | _, _, .dct h a => .dct (e _ _ h) (DqK.mono e a)
theorem DqA.mono (e : Same F F') : ∀ {v : List V} {d : List PyData}, DqA K F v d → DqA K F' v d
  | _, _, .nil => .nil
  | _, _, .cons h t => .cons (Dq.mono e h) (DqA.mono e t)
theorem DqK.mono (e : Same F F') : ∀ {v : List (Key × V)} {d : List (PyData × PyData)}, DqK K F v d → DqK K F' v d
  | _, _, .nil => .nil
  | _, _, .cons h t => .cons (Dq.mono e h) (DqK.mono e t)
end
theorem DqA.length : ∀ {vs : List V} {ds : List PyData}, DqA K F vs ds → vs.length = ds.length
  | _, _, .nil => rfl
  | _, _, .cons _ t => by rw [List.length_cons, List.length_cons, DqA.length t]
theorem DqK.length : ∀ {vs : List (Key × V)} {ds : List (PyData × PyData)}, DqK K F vs ds → vs.length = ds.length
  | _, _, .nil => rfl
  | _, _, .cons _ t => by rw [List.length_cons, List.length_cons, DqK.length t]
theorem DqA.get : ∀ {vs : List V} {ds : List PyData} {i : Nat} {d : PyData}, DqA K F vs ds → ds[i]? = some d → ∃ v, vs[i]? = some v ∧ Dq K F v d
  | _, _, _, _, .nil, e => by simp at e
  | _, _, 0, _, .cons h _, e => by simp at e; subst e; exact ⟨_, rfl, h⟩
  | _, _, i + 1, d, .cons _ t, e => by
    obtain ⟨v, h1, h2⟩ := DqA.get (i := i) (d := d) t (by simpa using e)
    exact ⟨v, by simpa using h1, h2⟩
theorem DqA.append : ∀ {vs ws : List V} {ds es : List PyData}, DqA K F vs ds → DqA K F ws es → DqA K F (vs ++ ws) (ds ++ es)
  | _, _, _, _, .nil, s => s
  | _, _, _, _, .cons r t, s => .cons r (DqA.append t s)
theorem DqA.take : ∀ {vs : List V} {ds : List PyData} (n : Nat), DqA K F vs ds → DqA K F (vs.take n) (ds.take n)
  | _, _, 0, _ => .nil
  | _, _, _ + 1, .nil => .nil
  | _, _, n + 1, .cons r t => .cons r (DqA.take n t)
theorem DqA.drop : ∀ {vs : List V} {ds : List PyData} (n : Nat), DqA K F vs ds → DqA K F (vs.drop n) (ds.drop n)
  | _, _, 0, r => r
  | _, _, _ + 1, .nil => .nil
  | _, _, n + 1, .cons _ t => DqA.drop n t
theorem DqA.snoc {vs : List V} {ds : List PyData} {v : V} {d : PyData} (h : DqA K F vs ds) (g : Dq K F v d) : DqA K F (vs ++ [v]) (ds ++ [d]) := h.append (.cons g .nil)
theorem DqA.reverse : ∀ {vs : List V} {ds : List PyData}, DqA K F vs ds → DqA K F vs.reverse ds.reverse
  | _, _, .nil => .nil
  | _, _, .cons h t => by rw [List.reverse_cons, List.reverse_cons]; exact (DqA.reverse t).snoc h
theorem DqA.eraseIdx : ∀ {vs : List V} {ds : List PyData} (i : Nat), DqA K F vs ds → DqA K F (vs.eraseIdx i) (ds.eraseIdx i)
  | _, _, _, .nil => .nil
  | _, _, 0, .cons _ t => t
  | _, _, i + 1, .cons h t => .cons h (DqA.eraseIdx i t)
theorem DqA.set {v : V} {d : PyData} (g : Dq K F v d) : ∀ {vs : List V} {ds : List PyData} (i : Nat), DqA K F vs ds → DqA K F (vs.set i v) (ds.set i d)
  | _, _, _, .nil => .nil
  | _, _, 0, .cons _ t => .cons g t
  | _, _, i + 1, .cons h t => .cons h (DqA.set g i t)
theorem DqA.rep {vs : List V} {ds : List PyData} (h : DqA K F vs ds) : ∀ k : Nat, DqA K F (List.replicate k vs).flatten (List.replicate k ds).flatten
  | 0 => .nil
  | k + 1 => by
    rw [List.replicate_succ, List.replicate_succ, List.flatten_cons, List.flatten_cons]
    exact h.append (DqA.rep h k)
end

/-- a value that reads as data now: its own object may be any that stands in H, its items are kept in F -/
def Dv (K : PySem.W.Frag) (F H : Hp) (v : V) : PyData → Prop
  | .none => v = .non
  | .bool b => v = .bl b
  | .int i => v = .int i
  | .str x => v = .str x
  | .list ds => ∃ a vs, v = .ref a ∧ H a = some (.lst vs) ∧ DqA K F vs ds
  | .tuple ds => ∃ a vs, v = .ref a ∧ SqT K F a vs ∧ DqA K F vs ds
  | .dict es => ∃ a kvs, v = .ref a ∧ H a = some (.dK kvs) ∧ DqK K F kvs es
theorem Dq.dv {K : PySem.W.Frag} {F H : Hp} {v : V} {d : PyData} (h : Dq K F v d) (e : Same F H) : Dv K F H v d := by
  cases h with
  | non => rfl
  | bl b => rfl
  | int i => rfl
  | str x => rfl
  | lst h a => exact ⟨_, _, rfl, e _ _ h, a⟩
  | tup h a => exact ⟨_, _, rfl, h, a⟩
  | dct h a => exact ⟨_, _, rfl, e _ _ h, a⟩
/-- an object that this def alone may change -/
def Own (K : PySem.W.Frag) (F H : Hp) (a : Addr) : PyData → Prop
  | .list ds => F a = none ∧ ∃ vs, H a = some (.lst vs) ∧ DqA K F vs ds
  | .dict es => F a = none ∧ ∃ kvs, H a = some (.dK kvs) ∧ DqK K F kvs es
  | _ => False
theorem Own.dv {K : PySem.W.Frag} {F H : Hp} {a : Addr} {d : PyData} (h : Own K F H a d) : Dv K F H (.ref a) d := by
  cases d with
  | list ds => obtain ⟨_, vs, e, z⟩ := h; exact ⟨a, vs, rfl, e, z⟩
  | dict es => obtain ⟨_, vs, e, z⟩ := h; exact ⟨a, vs, rfl, e, z⟩
  | none => exact h.elim
  | bool => exact h.elim
  | int => exact h.elim
  | str => exact h.elim
  | tuple => exact h.elim
theorem Own.free {K : PySem.W.Frag} {F H : Hp} {a : Addr} {d : PyData} (h : Own K F H a d) : F a = none := by
  cases d <;> first | exact h.1 | exact h.elim
theorem Own.there {K : PySem.W.Frag} {F H : Hp} {a : Addr} {d : PyData} (h : Own K F H a d) : ∃ o, H a = some o := by
  cases d with
  | list ds => obtain ⟨_, vs, e, z⟩ := h; exact ⟨_, e⟩
  | dict es => obtain ⟨_, vs, e, z⟩ := h; exact ⟨_, e⟩
  | none => exact h.elim
  | bool => exact h.elim
  | int => exact h.elim
  | str => exact h.elim
  | tuple => exact h.elim
theorem Own.mono {K : PySem.W.Frag} {F H F' H' : Hp} {a : Addr} {d : PyData} (h : Own K F H a d) (e : Same F F') (k : ∀ o, H a = some o → H' a = some o) (f : F' a = none) : Own K F' H' a d := by
  cases d with
  | list ds => obtain ⟨_, vs, q, z⟩ := h; exact ⟨f, vs, k _ q, z.mono e⟩
  | dict es => obtain ⟨_, vs, q, z⟩ := h; exact ⟨f, vs, k _ q, z.mono e⟩
  | none => exact h.elim
  | bool => exact h.elim
  | int => exact h.elim
  | str => exact h.elim
  | tuple => exact h.elim
/-- given away, it is kept as it is -/
theorem Own.froze {K : PySem.W.Frag} {F H : Hp} {a : Addr} {d : PyData} (h : Own K F H a d) : ∃ o, H a = some o ∧ Dq K (upd F a o) (.ref a) d := by
  have hf := h.free
  have s : ∀ o, Same F (upd F a o) := fun o b u q => by rw [upd_ne (ne_of_none q hf)]; exact q
  cases d with
  | list ds => obtain ⟨_, vs, q, z⟩ := h; exact ⟨_, q, .lst upd_same (z.mono (s _))⟩
  | dict es => obtain ⟨_, vs, q, z⟩ := h; exact ⟨_, q, .dct upd_same (z.mono (s _))⟩
  | none => exact h.elim
  | bool => exact h.elim
  | int => exact h.elim
  | str => exact h.elim
  | tuple => exact h.elim

/-! ### dicts whose keys are tuples, nested -/
mutual
def nkOf : PyData → Option NestedKey
  | .none => some .none
  | .bool b => some (.num (if b = true then 1 else 0))
  | .int i => some (.num i)
  | .str x => some (.text x)
  | .tuple ds => (nksOf ds).map .tup
  | _ => none
def nksOf : List PyData → Option (List NestedKey)
  | [] => some []
  | d :: ds => (nkOf d).bind fun k => (nksOf ds).map (k :: ·)
end
/-- the key of a tuple -/
def nk8 (d : PyData) : Option NestedKey := match d with
  | .tuple ds => (nkOf (.tuple ds)).bind fun k => if k.depth ≤ 8 then some k else none
  | _ => none
def kdEnt (w : World) (x : NestedKey × Addr × Value) : DictEntry := ⟨x.1.hash w, .ref x.2.1, x.2.2⟩
def kdObj (w : World) (a : Addr) (xs : List (NestedKey × Addr × Value)) : HO := .ext fun h => ∃ o es ep, h.get? a = some o ∧ o.ExactDict ∧ o.data = .dict es ep ∧ es.toList = xs.map (kdEnt w)
inductive DqX (K : PySem.W.Frag) (F : Hp) : List (NestedKey × Addr × Value) → List (NestedKey × PyData) → Prop
  | nil : DqX K F [] []
  | cons {k : NestedKey} {b : Addr} {u : Value} {v : V} {d e : PyData} {xs : List (NestedKey × Addr × Value)} {es : List (NestedKey × PyData)} :
      nk8 d = some k → Dq K F (.ref b) d → RelV v u → Dq K F v e → DqX K F xs es → DqX K F ((k, b, u) :: xs) ((k, e) :: es)
theorem DqX.mono {K : PySem.W.Frag} {F F' : Hp} (e : Same F F') : ∀ {xs : List (NestedKey × Addr × Value)} {es : List (NestedKey × PyData)}, DqX K F xs es → DqX K F' xs es
  | _, _, .nil => .nil
  | _, _, .cons h1 h2 h3 h4 t => .cons h1 (h2.mono e) h3 (h4.mono e) (DqX.mono e t)
def OwnT (w : World) (K : PySem.W.Frag) (F H : Hp) (a : Addr) (es : List (NestedKey × PyData)) : Prop :=
  F a = none ∧ (a == sysModules) = false ∧ ∃ xs, H a = some (kdObj w a xs) ∧ DqX K F xs es ∧ (xs.map (·.1)).Nodup
theorem OwnT.free {w : World} {K : PySem.W.Frag} {F H : Hp} {a : Addr} {es : List (NestedKey × PyData)} (h : OwnT w K F H a es) : F a = none := h.1
theorem OwnT.there {w : World} {K : PySem.W.Frag} {F H : Hp} {a : Addr} {es : List (NestedKey × PyData)} (h : OwnT w K F H a es) : ∃ φ, H a = some (.ext φ) := by
  obtain ⟨_, _, xs, e, _⟩ := h
  exact ⟨_, e⟩
theorem OwnT.mono {w : World} {K : PySem.W.Frag} {F H F' H' : Hp} {a : Addr} {es : List (NestedKey × PyData)} (h : OwnT w K F H a es) (e : Same F F') (k : ∀ o, H a = some o → H' a = some o) (f : F' a = none) : OwnT w K F' H' a es := by
  obtain ⟨_, h2, xs, h3, h4, h5⟩ := h
  exact ⟨f, h2, xs, k _ h3, h4.mono e, h5⟩
theorem Own.notX {K : PySem.W.Frag} {F H : Hp} {a : Addr} {d : PyData} {φ : Heap → Prop} (h : Own K F H a d) : H a ≠ some (.ext φ) := by
  intro z
  cases d with
  | list ds => obtain ⟨_, vs, q, _⟩ := h; rw [z] at q; cases q
  | dict es => obtain ⟨_, vs, q, _⟩ := h; rw [z] at q; cases q
  | none => exact h.elim
  | bool => exact h.elim
  | int => exact h.elim
  | str => exact h.elim
  | tuple => exact h.elim

/-! ### slots, the state -/
/-- a slot's content: kept data; a list or dict of this def alone; one that is lent by the caller; the tray -/
inductive Val where
  | fro (d : PyData) | own (d : PyData) | bor (d : PyData) | tray (k : Nat) | kd (es : List (NestedKey × PyData))
abbrev Env := List (Option Val)
/-- an expression's result: kept data; what stands in a slot; the tray -/
inductive Rv where
  | fro (d : PyData) | loan (i : Nat) | tray (k : Nat)
/-- what is said of the state: T of the tray, S its addresses -/
structure Gm where
  K : PySem.W.Frag
  w : World
  S : List Addr
  T : Type
  In : T → Hp → Prop
  loc : ∀ t H H', (∀ a ∈ S, H' a = H a) → In t H → In t H'
  has : ∀ t H a, a ∈ S → In t H → ∃ o, H a = some o
  F0 : Hp
  H0 : Hp
  ta : Nat → V
structure Fin (Γ : Gm) (F H : Hp) (t : Γ.T) : Prop where
  ex : Same F H
  inn : Γ.In t H
  sF : ∀ a ∈ Γ.S, F a = none
  step0 : Same Γ.F0 F
  step : ∀ a o, a ∉ Γ.S → Γ.F0 a = none → Γ.H0 a = some o → F a = none ∧ H a = some o
def SlotOk (Γ : Gm) (F H : Hp) (σ : L2.St) (i : Nat) : Val → Prop
  | .fro d => ∃ v, σ[i]? = some (some v) ∧ Dq Γ.K F v d
  | .own d => ∃ a, σ[i]? = some (some (.ref a)) ∧ Own Γ.K F H a d ∧ Γ.H0 a = none ∧ a ∉ Γ.S
  | .bor d => ∃ v, σ[i]? = some (some v) ∧ (Dq Γ.K F v d ∨ ∃ a o, v = .ref a ∧ Own Γ.K F H a d ∧ a ∉ Γ.S ∧ Γ.F0 a = none ∧ Γ.H0 a = some o)
  | .tray k => σ[i]? = some (some (Γ.ta k))
  | .kd es => ∃ a, σ[i]? = some (some (.ref a)) ∧ OwnT Γ.w Γ.K F H a es ∧ Γ.H0 a = none ∧ a ∉ Γ.S
structure Rep (Γ : Gm) (F H : Hp) (σ : L2.St) (ρ : Env) (t : Γ.T) : Prop extends Fin Γ F H t where
  len : ρ.length = σ.length
  slots : ∀ (i : Nat) (w : Val), ρ[i]? = some (some w) → SlotOk Γ F H σ i w
  sep : ∀ (i j : Nat) (a : Addr) (d e : PyData), i ≠ j → ρ[i]? = some (some (.own d)) → ρ[j]? = some (some (.own e)) → σ[i]? = some (some (.ref a)) → σ[j]? ≠ some (some (.ref a))
/-- what may happen meanwhile: nothing that stood changes but the tray, nothing that was not kept becomes kept -/
structure Ext (S : List Addr) (F H F' H' : Hp) : Prop where
  f : Same F F'
  e : Same F' H'
  h : ∀ a o, a ∉ S → H a = some o → H' a = some o
  n : ∀ a o, F a = none → H a = some o → F' a = none
section
variable {Γ : Gm} {F H F' H' : Hp} {σ : L2.St} {ρ : Env} {t t' : Γ.T} {S : List Addr}
theorem Ext.refl (h : Same F H) : Ext S F H F H := ⟨Same.refl F, h, fun _ _ _ q => q, fun _ _ q _ => q⟩
theorem Ext.trans {F1 H1 F2 H2 : Hp} (a : Ext S F H F1 H1) (b : Ext S F1 H1 F2 H2) (hs : ∀ a ∈ S, F a = none → F2 a = none) : Ext S F H F2 H2 := by
  refine ⟨a.f.trans b.f, b.e, fun x o hx q => b.h x o hx (a.h x o hx q), fun x o q z => ?_⟩
  by_cases hx : x ∈ S
  · exact hs x hx q
  · exact b.n x o (a.n x o q z) (a.h x o hx z)
/-- a new object, kept -/
theorem Ext.keep {p : Addr} {o : HO} (s : Same F H) (hp : H p = none) : Ext S F H (upd F p o) (upd H p o) := by
  have fp : F p = none := s.free hp
  refine ⟨fun b u q => by rw [upd_ne (ne_of_none q fp)]; exact q, fun b u q => ?_, fun b u _ q => by rw [upd_ne (ne_of_none q hp)]; exact q, fun b u q z => by rw [upd_ne (ne_of_none z hp)]; exact q⟩
  by_cases hb : b = p
  · subst hb; rw [upd_same] at q ⊢; exact q
  · rw [upd_ne hb] at q ⊢; exact s b u q
/-- a new object, not kept -/
theorem Ext.new {p : Addr} {o : HO} (s : Same F H) (hp : H p = none) : Ext S F H F (upd H p o) := by
  have fp : F p = none := s.free hp
  exact ⟨Same.refl F, fun b u q => by rw [upd_ne (ne_of_none q fp)]; exact s b u q, fun b u _ q => by rw [upd_ne (ne_of_none q hp)]; exact q, fun b u q z => q⟩
theorem Ext.wide (x : Ext [] F H F' H') : Ext S F H F' H' := ⟨x.f, x.e, fun a o _ q => x.h a o (by simp) q, x.n⟩
theorem Fin.ext (R : Fin Γ F H t) (x : Ext Γ.S F H F' H') (inn : Γ.In t' H') (sF : ∀ a ∈ Γ.S, F' a = none) : Fin Γ F' H' t' := by
  refine ⟨x.e, inn, sF, R.step0.trans x.f, fun a o n1 n2 n3 => ?_⟩
  obtain ⟨q1, q2⟩ := R.step a o n1 n2 n3
  exact ⟨x.n a o q1 q2, x.h a o n1 q2⟩
theorem Fin.old (R : Fin Γ F H t) {a : Addr} (h : H a = none) : Γ.H0 a = none ∧ a ∉ Γ.S := by
  have n2 : a ∉ Γ.S := fun z => by
    obtain ⟨o, q⟩ := Γ.has t H a z R.inn
    rw [h] at q; cases q
  refine ⟨?_, n2⟩
  cases q : Γ.H0 a with
  | none => rfl
  | some o =>
    cases q0 : Γ.F0 a with
    | none =>
      have := (R.step a o n2 q0 q).2
      rw [h] at this; cases this
    | some u =>
      have := R.ex a u (R.step0 a u q0)
      rw [h] at this; cases this
theorem SlotOk.ext {i : Nat} {w : Val} (R : Fin Γ F H t) (x : Ext Γ.S F H F' H') (s : SlotOk Γ F H σ i w) : SlotOk Γ F' H' σ i w := by
  cases w with
  | fro d => obtain ⟨v, e, q⟩ := s; exact ⟨v, e, q.mono x.f⟩
  | own d =>
    obtain ⟨a, e, q, q2, q3⟩ := s
    obtain ⟨o, ho⟩ := q.there
    exact ⟨a, e, q.mono x.f (fun u hu => x.h a u q3 hu) (x.n a o q.free ho), q2, q3⟩
  | bor d =>
    obtain ⟨v, e, q⟩ := s
    refine ⟨v, e, ?_⟩
    rcases q with q | ⟨a, o, e2, q, q3, q4, q5⟩
    · exact .inl (q.mono x.f)
    · obtain ⟨o', ho⟩ := q.there
      exact .inr ⟨a, o, e2, q.mono x.f (fun u hu => x.h a u q3 hu) (x.n a o' q.free ho), q3, q4, q5⟩
  | tray _ => exact s
  | kd es =>
    obtain ⟨a, e, q, q2, q3⟩ := s
    obtain ⟨o, ho⟩ := q.there
    exact ⟨a, e, q.mono x.f (fun u hu => x.h a u q3 hu) (x.n a _ q.free ho), q2, q3⟩
theorem Rep.ext (R : Rep Γ F H σ ρ t) (x : Ext Γ.S F H F' H') (inn : Γ.In t' H') (sF : ∀ a ∈ Γ.S, F' a = none) : Rep Γ F' H' σ ρ t' :=
  { R.toFin.ext x inn sF with len := R.len, slots := fun i w e => (R.slots i w e).ext R.toFin x, sep := R.sep }
/-- .. the tray as it was -/
theorem Rep.ext0 (R : Rep Γ F H σ ρ t) (x : Ext [] F H F' H') : Rep Γ F' H' σ ρ t := by
  refine R.ext x.wide (Γ.loc t H H' (fun a ha => ?_) R.inn) fun a ha => ?_
  · obtain ⟨o, q⟩ := Γ.has t H a ha R.inn
    rw [q]; exact x.h a o (by simp) q
  · obtain ⟨o, q⟩ := Γ.has t H a ha R.inn
    exact x.n a o (R.sF a ha) q
end

/-! ### results -/
def RvOk (Γ : Gm) (F : Hp) (σ : L2.St) (v : V) : Rv → Prop
  | .fro d => Dq Γ.K F v d
  | .loan i => σ[i]? = some (some v)
  | .tray k => v = Γ.ta k
def rd (ρ : Env) : Rv → Option PyData
  | .fro d => some d
  | .loan i => match ρ[i]? with
    | some (some (.own d)) => some d
    | some (some (.bor d)) => some d
    | some (some (.fro d)) => some d
    | _ => none
  | .tray _ => none
theorem RvOk.mono {Γ : Gm} {F F' : Hp} {σ : L2.St} {v : V} {r : Rv} (e : Same F F') (h : RvOk Γ F σ v r) : RvOk Γ F' σ v r := by
  cases r with
  | fro d => exact Dq.mono e h
  | loan i => exact h
  | tray _ => exact h
theorem Rep.read {Γ : Gm} {F H : Hp} {σ : L2.St} {ρ : Env} {t : Γ.T} {v : V} {r : Rv} {d : PyData} (R : Rep Γ F H σ ρ t) (h : RvOk Γ F σ v r) (e : rd ρ r = some d) : Dv Γ.K F H v d := by
  cases r with
  | fro d' => cases e; exact Dq.dv h R.ex
  | tray _ => cases e
  | loan i =>
    have h : σ[i]? = some (some v) := h
    unfold rd at e
    simp only at e
    split at e
    · rename_i d' q
      cases e
      obtain ⟨a, e2, o, _⟩ := R.slots i _ q
      rw [h] at e2; cases e2
      exact o.dv
    · rename_i d' q
      cases e
      obtain ⟨w, e2, o⟩ := R.slots i _ q
      rw [h] at e2; cases e2
      rcases o with o | ⟨a, _, rfl, o, _⟩
      · exact o.dv R.ex
      · exact o.dv
    · rename_i d' q
      cases e
      obtain ⟨w, e2, o⟩ := R.slots i _ q
      rw [h] at e2; cases e2
      exact o.dv R.ex
    · cases e
end Mi
/-! Mirrors of expressions. -/
namespace Mi
open PySem L2

/-! ### more of the state -/
section
variable {Γ : Gm} {F H F' H' : Hp} {σ : L2.St} {ρ : Env} {t t' : Γ.T}
/-- a new object of this def's own -/
structure Fresh (Γ : Gm) (H F' H' : Hp) (σ : L2.St) (ρ : Env) (a : Addr) (d : PyData) : Prop where
  own : Own Γ.K F' H' a d
  new : H a = none
  old : Γ.H0 a = none
  nS : a ∉ Γ.S
  nsl : ∀ (i : Nat) (e : PyData), ρ[i]? = some (some (.own e)) → σ[i]? ≠ some (some (.ref a))
theorem Rep.froze {a : Addr} {o : HO} (R : Rep Γ F H σ ρ t) (hF : F a = none) (hH : H a = some o) (nX : ∀ φ, H a ≠ some (.ext φ)) (nS : a ∉ Γ.S) (old : Γ.H0 a = none)
    (nsl : ∀ (i : Nat) (e : PyData), ρ[i]? = some (some (.own e)) → σ[i]? ≠ some (some (.ref a))) : Rep Γ (upd F a o) H σ ρ t := by
  have sm : Same F (upd F a o) := fun b u q => by rw [upd_ne (ne_of_none q hF)]; exact q
  refine { ex := fun b u q => ?_, inn := R.inn, sF := fun b hb => ?_, step0 := R.step0.trans sm, step := fun b u n1 n2 n3 => ?_, len := R.len, slots := fun i w e => ?_, sep := R.sep }
  · by_cases hb : b = a
    · subst hb; rw [upd_same] at q; rw [hH]; exact q
    · rw [upd_ne hb] at q; exact R.ex b u q
  · rw [upd_ne (fun z : b = a => nS (z ▸ hb))]; exact R.sF b hb
  · have hba : b ≠ a := fun z => by subst z; rw [old] at n3; cases n3
    rw [upd_ne hba]; exact R.step b u n1 n2 n3
  · have s := R.slots i w e
    cases w with
    | fro d => obtain ⟨v, e1, q⟩ := s; exact ⟨v, e1, q.mono sm⟩
    | own d =>
      obtain ⟨b, e1, q, q2, q3⟩ := s
      have hba : b ≠ a := fun z => nsl i d e (z ▸ e1)
      exact ⟨b, e1, q.mono sm (fun _ q => q) (by rw [upd_ne hba]; exact q.free), q2, q3⟩
    | bor d =>
      obtain ⟨v, e1, q⟩ := s
      refine ⟨v, e1, ?_⟩
      rcases q with q | ⟨b, u, e2, q, q3, q4, q5⟩
      · exact .inl (q.mono sm)
      · have hba : b ≠ a := fun z => by subst z; rw [old] at q5; cases q5
        exact .inr ⟨b, u, e2, q.mono sm (fun _ q => q) (by rw [upd_ne hba]; exact q.free), q3, q4, q5⟩
    | tray _ => exact s
    | kd es =>
      obtain ⟨b, e1, q, q2, q3⟩ := s
      have hba : b ≠ a := fun z => by
        subst z
        obtain ⟨φ, hφ⟩ := q.there
        exact nX φ hφ
      exact ⟨b, e1, q.mono sm (fun _ q => q) (by rw [upd_ne hba]; exact q.free), q2, q3⟩
/-- a new object is a fresh one -/
theorem Rep.fresh {a : Addr} {d : PyData} (R : Rep Γ F H σ ρ t) (o : Own Γ.K F H' a d) (hH : H a = none) : Fresh Γ H F H' σ ρ a d := by
  obtain ⟨old, nS⟩ := R.toFin.old hH
  refine ⟨o, hH, old, nS, fun i e q z => ?_⟩
  obtain ⟨b, e1, q1, _⟩ := R.slots i _ q
  rw [e1] at z; cases z
  obtain ⟨u, hu⟩ := q1.there
  rw [hH] at hu; cases hu
end

/-! ### expressions -/
abbrev ME (T : Type) := Env → T → Option (Rv × T)
/-- an expression that does what f says -/
def den (Γ : Gm) (f : ME Γ.T) : TE := fun σ H Q => ∃ F ρ t r t', Rep Γ F H σ ρ t ∧ f ρ t = some (r, t') ∧
  ∀ v F' H', Rep Γ F' H' σ ρ t' → Ext Γ.S F H F' H' → RvOk Γ F' σ v r → Q v H'
/-- .. whose value is a new list or dict -/
def denL (Γ : Gm) (f : Env → Γ.T → Option (PyData × Γ.T)) : TE := fun σ H Q => ∃ F ρ t d t', Rep Γ F H σ ρ t ∧ f ρ t = some (d, t') ∧
  ∀ a F' H', Rep Γ F' H' σ ρ t' → Ext Γ.S F H F' H' → Fresh Γ H F' H' σ ρ a d → Q (.ref a) H'
def denT (Γ : Gm) (f : Env → Γ.T → Option (Bool × Γ.T)) : TT := fun σ H Q => ∃ F ρ t b t', Rep Γ F H σ ρ t ∧ f ρ t = some (b, t') ∧
  ∀ F' H', Rep Γ F' H' σ ρ t' → Ext Γ.S F H F' H' → Q b H'
inductive RvsOk (Γ : Gm) (F : Hp) (σ : L2.St) : List V → List Rv → Prop
  | nil : RvsOk Γ F σ [] []
  | cons {v : V} {vs : List V} {r : Rv} {rs : List Rv} : RvOk Γ F σ v r → RvsOk Γ F σ vs rs → RvsOk Γ F σ (v :: vs) (r :: rs)
def denA (Γ : Gm) (f : Env → Γ.T → Option (List Rv × Γ.T)) : TA := fun σ H Q => ∃ F ρ t rs t', Rep Γ F H σ ρ t ∧ f ρ t = some (rs, t') ∧
  ∀ vs F' H', Rep Γ F' H' σ ρ t' → Ext Γ.S F H F' H' → RvsOk Γ F' σ vs rs → Q vs H'
theorem RvsOk.mono {Γ : Gm} {F F' : Hp} {σ : L2.St} (e : Same F F') : ∀ {vs : List V} {rs : List Rv}, RvsOk Γ F σ vs rs → RvsOk Γ F' σ vs rs
  | _, _, .nil => .nil
  | _, _, .cons h t => .cons (h.mono e) (RvsOk.mono e t)
theorem pe_w {X : Cx} {e : Expr} {t t' : TE} (h : PE X e t) (w : ∀ σ H Q, t' σ H Q → t σ H Q) : PE X e t' := ⟨fun pins s σ H Q I q => h.run pins s σ H Q I (w σ H Q q)⟩
theorem pt_w {X : Cx} {e : Expr} {t t' : TT} (h : PT X e t) (w : ∀ σ H Q, t' σ H Q → t σ H Q) : PT X e t' := ⟨fun pins s σ H Q I q => h.run pins s σ H Q I (w σ H Q q)⟩
theorem pw_w {X : Cx} {e : Expr} {t t' : TT} (h : PW X e t) (w : ∀ σ H Q, t' σ H Q → t σ H Q) : PW X e t' := ⟨fun wh pins s σ H Q I q => h.run wh pins s σ H Q I (w σ H Q q)⟩
theorem pa_w {X : Cx} {e : List Expr} {t t' : TA} (h : PA X e t) (w : ∀ σ H Q, t' σ H Q → t σ H Q) : PA X e t' := ⟨fun pos pins s σ H Q I q => h.run pos pins s σ H Q I (w σ H Q q)⟩
theorem Ext.then {Γ : Gm} {F H F1 H1 F2 H2 : Hp} {σ : L2.St} {ρ : Env} {t : Γ.T} (a : Ext Γ.S F H F1 H1) (b : Ext Γ.S F1 H1 F2 H2) (R : Rep Γ F2 H2 σ ρ t) : Ext Γ.S F H F2 H2 :=
  a.trans b fun x hx _ => R.sF x hx

section
variable {Γ : Gm} {X : Cx}
/-- a new list or dict, kept from now on -/
def mKeep {T : Type} (f : Env → T → Option (PyData × T)) : ME T := fun ρ t => match f ρ t with
  | some (d, t') => some (.fro d, t')
  | none => none
theorem pe_keep {e : Expr} {f : Env → Γ.T → Option (PyData × Γ.T)} (h : PE X e (denL Γ f)) : PE X e (den Γ (mKeep f)) := pe_w h fun σ H Q => by
  rintro ⟨F, ρ, t, r, t', R, e, q⟩
  unfold mKeep at e
  split at e
  · rename_i d t1 e1
    cases e
    refine ⟨F, ρ, t, d, t', R, e1, fun a F' H' R' x fr => ?_⟩
    obtain ⟨o, ho, dq⟩ := fr.own.froze
    have R2 := R'.froze fr.own.free ho (fun φ => fr.own.notX) fr.nS fr.old fr.nsl
    refine q _ _ _ R2 ⟨fun b u z => ?_, R2.ex, x.h, fun b u z1 z2 => ?_⟩ dq
    · rw [upd_ne (ne_of_none (x.f b u z) fr.own.free)]; exact x.f b u z
    · rw [upd_ne (ne_of_none z2 fr.new)]; exact x.n b u z1 z2
  · cases e

/-- a written value -/
def mC {T : Type} (d : PyData) : ME T := fun _ t => some (.fro d, t)
theorem pe_c {e : Expr} {v : V} {d : PyData} (h : PE X e (tC v)) (hd : ∀ F, Dq Γ.K F v d) : PE X e (den Γ (mC d)) := pe_w h fun σ H Q => by
  rintro ⟨F, ρ, t, r, t', R, e, q⟩
  cases e
  exact q v F H R (Ext.refl R.ex) (hd F)
theorem pe_cI {i : Int} {j : Nat} {pos : Pos} : PE X (.Constant (.int i) j pos) (den Γ (mC (.int i))) := pe_c L2.pe_int fun _ => .int i
theorem pe_cB {b : Bool} {j : Nat} {pos : Pos} : PE X (.Constant (.bool b) j pos) (den Γ (mC (.bool b))) := pe_c L2.pe_bl fun _ => .bl b
/-- a module's constant -/
theorem pe_cG {x : Str} {v : V} {u : Value} {d : PyData} {pos : Pos} (hg : Gl X x) (hm : X.mg x = some u) (r : RelV v u) (hd : ∀ F, Dq Γ.K F v d) (h2 : (x == ("__debug__" : Str)) = false := by decide) : PE X (.Name x pos) (den Γ (mC d)) := pe_c (pe_glob hg hm r h2) hd

/-- a name -/
def flat : PyData → Bool
  | .list _ => false
  | .dict _ => false
  | _ => true
def mV {T : Type} (i : Nat) : ME T := fun ρ t => match ρ[i]? with
  | some (some (.fro d)) => some (.fro d, t)
  | some (some (.own d)) => some (.loan i, t)
  | some (some (.bor d)) => some (if flat d then .fro d else .loan i, t)
  | some (some (.tray k)) => some (.tray k, t)
  | _ => none
theorem pe_v {i : Nat} {e : Expr} (h : PE X e (tVar i)) : PE X e (den Γ (mV i)) := pe_w h fun σ H Q => by
  rintro ⟨F, ρ, t, r, t', R, e, q⟩
  unfold mV at e
  split at e
  · rename_i d q1
    cases e
    obtain ⟨v, e1, dq⟩ := R.slots i _ q1
    exact ⟨v, e1, q v F H R (Ext.refl R.ex) dq⟩
  · rename_i d q1
    cases e
    obtain ⟨a, e1, _⟩ := R.slots i _ q1
    exact ⟨_, e1, q _ F H R (Ext.refl R.ex) e1⟩
  · rename_i d q1
    cases e
    obtain ⟨v, e1, o⟩ := R.slots i _ q1
    refine ⟨v, e1, q v F H R (Ext.refl R.ex) ?_⟩
    by_cases hf : flat d = true
    · rw [if_pos hf]
      rcases o with o | ⟨a, u, _, o, _⟩
      · exact o
      · cases d <;> first | exact o.elim | cases hf
    · rw [if_neg hf]
      exact e1
  · rename_i q1
    cases e
    have e1 : σ[i]? = some (some (Γ.ta _)) := R.slots i _ q1
    exact ⟨_, e1, q _ F H R (Ext.refl R.ex) rfl⟩
  · cases e

/-! ### two operands -/
/-- what an operation on data asks and gives -/
def rD (K : PySem.W.Frag) (g : PyData → PyData → Option PyData) : R2 := fun v w H Q => ∃ F x y z, Same F H ∧ Dv K F H v x ∧ Dv K F H w y ∧ g x y = some z ∧
  ∀ u F' H', Ext [] F H F' H' → Dq K F' u z → Q u H'
def mBin {T : Type} (g : PyData → PyData → Option PyData) (fa fb : ME T) : ME T := fun ρ t => do
  let (r1, t1) ← fa ρ t
  let (r2, t2) ← fb ρ t1
  let x ← rd ρ r1
  let y ← rd ρ r2
  let z ← g x y
  pure (.fro z, t2)
def mUn {T : Type} (g : PyData → Option PyData) (fa : ME T) : ME T := fun ρ t => do
  let (r1, t1) ← fa ρ t
  let x ← rd ρ r1
  let z ← g x
  pure (.fro z, t1)
theorem bind_some {α β : Type} {o : Option α} {f : α → Option β} {b : β} (h : (o >>= f) = some b) : ∃ a, o = some a ∧ f a = some b := by
  cases o with
  | none => cases h
  | some a => exact ⟨a, rfl, h⟩
theorem w_op {g : PyData → PyData → Option PyData} {fa fb : ME Γ.T} (σ : L2.St) (H : Hp) (Q : VK) : den Γ (mBin g fa fb) σ H Q → tOp (rD Γ.K g) (den Γ fa) (den Γ fb) σ H Q := by
  rintro ⟨F, ρ, t, r, t', R, e, q⟩
  obtain ⟨⟨r1, t1⟩, e1, e⟩ := bind_some e
  obtain ⟨⟨r2, t2⟩, e2, e⟩ := bind_some e
  obtain ⟨x, ex, e⟩ := bind_some e
  obtain ⟨y, ey, e⟩ := bind_some e
  obtain ⟨z, ez, e⟩ := bind_some e
  cases e
  refine ⟨F, ρ, t, _, _, R, e1, fun v F1 H1 R1 x1 k1 => ⟨F1, ρ, _, _, _, R1, e2, fun w F2 H2 R2 x2 k2 => ?_⟩⟩
  exact ⟨F2, x, y, z, R2.ex, R2.read (k1.mono x2.f) ex, R2.read k2 ey, ez, fun u F3 H3 x3 k3 => q u F3 H3 (R2.ext0 x3) (((x1.then x2 R2).then x3.wide (R2.ext0 x3))) k3⟩
variable {a b c : Expr} {fa fb fc : ME Γ.T} {g : PyData → PyData → Option PyData} {pos : Pos}
theorem pe_bin {op : Operator} (ho : OpR X (binaryOp op) (rD Γ.K g)) (ha : PE X a (den Γ fa)) (hb : PE X b (den Γ fb)) : PE X (.BinOp a op b pos) (den Γ (mBin g fa fb)) := pe_w (pe_op ho ha hb) w_op
theorem pe_cmpD {op : CmpOp} (ho : OpR X (compareOp op) (rD Γ.K g)) (ha : PE X a (den Γ fa)) (hb : PE X b (den Γ fb)) (hm : behindInMarks op b = false) : PE X (.Compare a [op] [b] pos) (den Γ (mBin g fa fb)) := pe_w (pe_cmpR ho ha hb hm) w_op
/-! ### tests -/
/-- a value that is True or False, as a test -/
def mTest {T : Type} (f : ME T) : Env → T → Option (Bool × T) := fun ρ t => match f ρ t with
  | some (.fro (.bool b), t') => some (b, t')
  | _ => none
theorem pt_b (h : PE X a (den Γ fa)) (he : ∀ whole, isTrue a X.env whole = (do let v ← whole; standAt a.pos; holding [v] (truthy v)) := by intro _; rfl) : PT X a (denT Γ (mTest fa)) := pt_w (pt_val h he) fun σ H Q => by
  rintro ⟨F, ρ, t, r, t', R, e, q⟩
  unfold mTest at e
  split at e
  · rename_i b t1 e1
    cases e
    refine ⟨F, ρ, t, _, _, R, e1, fun v F1 H1 R1 x1 k1 => ?_⟩
    cases (show Dq Γ.K F1 v (.bool _) from k1)
    exact ⟨_, rfl, q F1 H1 R1 x1⟩
  · cases e
/-- a comparison as a test -/
theorem pt_cmpD {op : CmpOp} (ho : OpR X (compareOp op) (rD Γ.K g)) (ha : PE X a (den Γ fa)) (hb : PE X b (den Γ fb)) (hm : behindInMarks op b = false) : PT X (.Compare a [op] [b] pos) (denT Γ (mTest (mBin g fa fb))) := pt_w (pt_cmpR ho ha hb hm) fun σ H Q => by
  rintro ⟨F, ρ, t, r, t', R, e, q⟩
  unfold mTest at e
  split at e
  · rename_i b t1 e1
    cases e
    refine w_op σ H _ ⟨F, ρ, t, _, _, R, e1, fun v F1 H1 R1 x1 k1 => ?_⟩
    cases (show Dq Γ.K F1 v (.bool _) from k1)
    exact ⟨_, rfl, q F1 H1 R1 x1⟩
  · cases e
def mAnd {T : Type} (f g : Env → T → Option (Bool × T)) : Env → T → Option (Bool × T) := fun ρ t => do
  let (b, t1) ← f ρ t
  if b then g ρ t1 else pure (false, t1)
def mOr {T : Type} (f g : Env → T → Option (Bool × T)) : Env → T → Option (Bool × T) := fun ρ t => do
  let (b, t1) ← f ρ t
  if b then pure (true, t1) else g ρ t1
def mNot {T : Type} (f : Env → T → Option (Bool × T)) : Env → T → Option (Bool × T) := fun ρ t => do
  let (b, t1) ← f ρ t
  pure (!b, t1)
variable {ta tb : Env → Γ.T → Option (Bool × Γ.T)} {rest : List Expr}
theorem w_and (σ : L2.St) (H : Hp) (Q : Bool → Hp → Prop) : denT Γ (mAnd ta tb) σ H Q → tAnd (denT Γ ta) (denT Γ tb) σ H Q := by
  rintro ⟨F, ρ, t, r, t', R, e, q⟩
  obtain ⟨⟨b1, t1⟩, e1, e⟩ := bind_some e
  refine ⟨F, ρ, t, b1, t1, R, e1, fun F1 H1 R1 x1 => ?_⟩
  cases b1 with
  | true => exact iteT ⟨F1, ρ, t1, r, t', R1, e, fun F2 H2 R2 x2 => q F2 H2 R2 (x1.then x2 R2)⟩
  | false => cases e; exact iteF (q F1 H1 R1 x1)
theorem w_or (σ : L2.St) (H : Hp) (Q : Bool → Hp → Prop) : denT Γ (mOr ta tb) σ H Q → tOr (denT Γ ta) (denT Γ tb) σ H Q := by
  rintro ⟨F, ρ, t, r, t', R, e, q⟩
  obtain ⟨⟨b1, t1⟩, e1, e⟩ := bind_some e
  refine ⟨F, ρ, t, b1, t1, R, e1, fun F1 H1 R1 x1 => ?_⟩
  cases b1 with
  | true => cases e; exact iteT (q F1 H1 R1 x1)
  | false => exact iteF ⟨F1, ρ, t1, r, t', R1, e, fun F2 H2 R2 x2 => q F2 H2 R2 (x1.then x2 R2)⟩
theorem w_not (σ : L2.St) (H : Hp) (Q : Bool → Hp → Prop) : denT Γ (mNot ta) σ H Q → tNot (denT Γ ta) σ H Q := by
  rintro ⟨F, ρ, t, r, t', R, e, q⟩
  obtain ⟨⟨b1, t1⟩, e1, e⟩ := bind_some e
  cases e
  exact ⟨F, ρ, t, _, _, R, e1, fun F1 H1 R1 x1 => q F1 H1 R1 x1⟩
theorem pw_andD (ha : PT X a (denT Γ ta)) (hb : PW X (.BoolOp .And (b :: rest) pos) (denT Γ tb)) : PW X (.BoolOp .And (a :: b :: rest) pos) (denT Γ (mAnd ta tb)) := pw_w (pw_and ha hb) w_and
theorem pw_orD (ha : PT X a (denT Γ ta)) (hb : PW X (.BoolOp .Or (b :: rest) pos) (denT Γ tb)) : PW X (.BoolOp .Or (a :: b :: rest) pos) (denT Γ (mOr ta tb)) := pw_w (pw_or ha hb) w_or
theorem pt_notD (ha : PT X a (denT Γ ta)) : PT X (.UnaryOp .Not a pos) (denT Γ (mNot ta)) := pt_w (pt_not ha) w_not

/-! ### and, or, not as values; a if t else b -/
def mAndV {T : Type} (f g : ME T) : ME T := fun ρ t => match f ρ t with
  | some (.fro (.bool b), t1) => if b then g ρ t1 else some (.fro (.bool false), t1)
  | _ => none
def mOrV {T : Type} (f g : ME T) : ME T := fun ρ t => match f ρ t with
  | some (.fro (.bool b), t1) => if b then some (.fro (.bool true), t1) else g ρ t1
  | _ => none
def mNotV {T : Type} (f : ME T) : ME T := fun ρ t => match f ρ t with
  | some (.fro (.bool b), t1) => some (.fro (.bool (!b)), t1)
  | _ => none
def mIf {T : Type} (c : Env → T → Option (Bool × T)) (f g : ME T) : ME T := fun ρ t => do
  let (b, t1) ← c ρ t
  if b then f ρ t1 else g ρ t1
theorem pe_ifD (hc : PT X c (denT Γ ta)) (ha : PE X a (den Γ fa)) (hb : PE X b (den Γ fb)) : PE X (.IfExp c a b pos) (den Γ (mIf ta fa fb)) := pe_w (pe_ifExp hc ha hb) fun σ H Q => by
  rintro ⟨F, ρ, t, r, t', R, e, q⟩
  obtain ⟨⟨b1, t1⟩, e1, e⟩ := bind_some e
  refine ⟨F, ρ, t, b1, t1, R, e1, fun F1 H1 R1 x1 => ?_⟩
  cases b1 with
  | true => exact iteT ⟨F1, ρ, t1, r, t', R1, e, fun w F2 H2 R2 x2 k2 => q w F2 H2 R2 (x1.then x2 R2) k2⟩
  | false => exact iteF ⟨F1, ρ, t1, r, t', R1, e, fun w F2 H2 R2 x2 k2 => q w F2 H2 R2 (x1.then x2 R2) k2⟩

/-! ### argument lists, displays, calls of built-ins -/
def mNil {T : Type} : Env → T → Option (List Rv × T) := fun _ t => some ([], t)
def mCons {T : Type} (f : ME T) (g : Env → T → Option (List Rv × T)) : Env → T → Option (List Rv × T) := fun ρ t => do
  let (r, t1) ← f ρ t
  let (rs, t2) ← g ρ t1
  pure (r :: rs, t2)
variable {es : List Expr} {ga : Env → Γ.T → Option (List Rv × Γ.T)}
theorem pa_nilD : PA X [] (denA Γ mNil) := pa_w pa_nil fun σ H Q => by
  rintro ⟨F, ρ, t, r, t', R, e, q⟩
  cases e
  exact q [] F H R (Ext.refl R.ex) .nil
theorem w_cons (σ : L2.St) (H : Hp) (Q : List V → Hp → Prop) : denA Γ (mCons fa ga) σ H Q → tCons (den Γ fa) (denA Γ ga) σ H Q := by
  rintro ⟨F, ρ, t, r, t', R, e, q⟩
  obtain ⟨⟨r1, t1⟩, e1, e⟩ := bind_some e
  obtain ⟨⟨rs, t2⟩, e2, e⟩ := bind_some e
  cases e
  exact ⟨F, ρ, t, _, _, R, e1, fun v F1 H1 R1 x1 k1 => ⟨F1, ρ, _, _, _, R1, e2, fun vs F2 H2 R2 x2 k2 => q _ F2 H2 R2 (x1.then x2 R2) (.cons (k1.mono x2.f) k2)⟩⟩
theorem pa_consD (ha : PE X a (den Γ fa)) (hr : PA X es (denA Γ ga)) (hs : starEach (a :: es) X.env = (false, eval a X.env) :: starEach es X.env := by rfl) : PA X (a :: es) (denA Γ (mCons fa ga)) := pa_w (pa_cons ha hr hs) w_cons
/-- kept data of all -/
def kept : List Rv → Option (List PyData)
  | [] => some []
  | .fro d :: r => (kept r).map (d :: ·)
  | _ => none
theorem kept_ok {F : Hp} {σ : L2.St} : ∀ {vs : List V} {rs : List Rv} {ds : List PyData}, RvsOk Γ F σ vs rs → kept rs = some ds → DqA Γ.K F vs ds
  | _, _, _, .nil, e => by cases e; exact .nil
  | _, .fro d :: r, ds, .cons h t, e => by
    unfold kept at e
    cases z : kept r with
    | none => rw [z] at e; cases e
    | some l => rw [z] at e; cases e; exact .cons h (kept_ok t z)
  | _, .loan i :: r, ds, .cons h t, e => by cases e
  | _, .tray _ :: r, ds, .cons h t, e => by cases e
def rds (ρ : Env) : List Rv → Option (List PyData)
  | [] => some []
  | r :: rs => do
    let d ← rd ρ r
    let ds ← rds ρ rs
    pure (d :: ds)
/-- a tuple display -/
def mTup {T : Type} (g : Env → T → Option (List Rv × T)) : ME T := fun ρ t => do
  let (rs, t1) ← g ρ t
  let ds ← kept rs
  if ds.length ≤ sizeLine then pure (.fro (.tuple ds), t1) else none
theorem pe_tupD {x1} (h : PA X es (denA Γ ga)) : PE X (.Tuple es x1 pos) (den Γ (mTup ga)) := pe_w (pe_tup h) fun σ H Q => by
  rintro ⟨F, ρ, t, r, t', R, e, q⟩
  obtain ⟨⟨rs, t1⟩, e1, e⟩ := bind_some e
  obtain ⟨ds, e2, e⟩ := bind_some e
  split at e
  · rename_i hz
    cases e
    refine ⟨F, ρ, t, _, _, R, e1, fun vs F1 H1 R1 x1 k1 => ?_⟩
    have dq := kept_ok k1 e2
    refine ⟨by rw [dq.length]; exact hz, fun p hp => ?_⟩
    have x2 : Ext [] F1 H1 (upd F1 p (.tup vs)) (upd H1 p (.tup vs)) := Ext.keep R1.ex hp
    exact q _ _ _ (R1.ext0 x2) (x1.then x2.wide (R1.ext0 x2)) (.tup (.of upd_same) (dq.mono x2.f))
  · cases e
/-- a list display -/
def mLst {T : Type} (g : Env → T → Option (List Rv × T)) : Env → T → Option (PyData × T) := fun ρ t => do
  let (rs, t1) ← g ρ t
  let ds ← kept rs
  if ds.length ≤ sizeLine then pure (.list ds, t1) else none
theorem pe_lstD (h : PA X es (denA Γ ga)) : PE X (.List es pos) (denL Γ (mLst ga)) := pe_w (pe_lst h) fun σ H Q => by
  rintro ⟨F, ρ, t, r, t', R, e, q⟩
  obtain ⟨⟨rs, t1⟩, e1, e⟩ := bind_some e
  obtain ⟨ds, e2, e⟩ := bind_some e
  split at e
  · rename_i hz
    cases e
    refine ⟨F, ρ, t, _, _, R, e1, fun vs F1 H1 R1 x1 k1 => ?_⟩
    have dq := kept_ok k1 e2
    refine ⟨by rw [dq.length]; exact hz, fun p hp => ?_⟩
    have x2 : Ext [] F1 H1 F1 (upd H1 p (.lst vs)) := Ext.new R1.ex hp
    have hp0 : H p = none := by
      cases z : H p with
      | none => rfl
      | some o =>
        by_cases hS : p ∈ Γ.S
        · obtain ⟨o2, q2⟩ := Γ.has _ H1 p hS R1.inn
          rw [hp] at q2; cases q2
        · have := x1.h p o hS z
          rw [hp] at this; cases this
    have fr := R1.fresh (H' := upd H1 p (.lst vs)) (d := .list ds) ⟨R1.ex.free hp, vs, upd_same, dq⟩ hp
    exact q _ _ _ (R1.ext0 x2) (x1.then x2.wide (R1.ext0 x2)) ⟨fr.own, hp0, fr.old, fr.nS, fr.nsl⟩
  · cases e
end
end Mi
/-! What the operators do to data. -/
namespace Mi
open PySem L2

def addD : PyData → PyData → Option PyData
  | .int i, .int j => some (.int (i + j))
  | .str x, .str y => if x.length + y.length ≤ sizeLine then some (.str (x ++ y)) else none
  | .list xs, .list ys => if xs.length + ys.length ≤ sizeLine then some (.list (xs ++ ys)) else none
  | .tuple xs, .tuple ys => if xs.length + ys.length ≤ sizeLine then some (.tuple (xs ++ ys)) else none
  | _, _ => none
def subD : PyData → PyData → Option PyData
  | .int i, .int j => some (.int (i - j))
  | _, _ => none
def mulI (i j : Int) : Option PyData := if (Builtin.Int.intBits i : Int) + (Builtin.Int.intBits j : Int) ≤ 134217728 then some (.int (i * j)) else none
def mulD : PyData → PyData → Option PyData
  | .int i, .int j => mulI i j
  | .list xs, .int k => if -(2 ^ 63) ≤ k ∧ k < 2 ^ 63 ∧ xs.length * k.toNat ≤ sizeLine then some (.list (List.replicate k.toNat xs).flatten) else none
  | .tuple xs, .int k => if -(2 ^ 63) ≤ k ∧ k < 2 ^ 63 ∧ (xs.isEmpty || k == 1) = true then some (.tuple xs) else
    if xs ≠ [] ∧ 2 ≤ k ∧ k ≤ 1000 ∧ xs.length ≤ 1000 then some (.tuple (List.replicate k.toNat xs).flatten) else none
  | _, _ => none
def fdivD : PyData → PyData → Option PyData
  | .int i, .int j => if 0 < j ∧ j.natAbs.log2 < 9000 then some (.int (i / j)) else none
  | _, _ => none
def modD : PyData → PyData → Option PyData
  | .int i, .int j => if 0 < j then some (.int (i % j)) else none
  | _, _ => none
def powD : PyData → PyData → Option PyData
  | .int i, .int j => if 0 ≤ j ∧ j ≤ 1000000 ∧ i.natAbs < 2 ^ 64 then some (.int (i ^ j.toNat)) else none
  | _, _ => none
def shlD : PyData → PyData → Option PyData
  | .int i, .int j => if 0 ≤ j ∧ (Builtin.Int.intBits i : Int) + j ≤ 2 ^ 27 then some (.int (i * 2 ^ j.toNat)) else none
  | _, _ => none
def andD : PyData → PyData → Option PyData
  | .int i, .int j => some (.int (Builtin.bitAnd i j))
  | _, _ => none
def orD : PyData → PyData → Option PyData
  | .int i, .int j => some (.int (Builtin.bitOr i j))
  | _, _ => none
def xorD : PyData → PyData → Option PyData
  | .int i, .int j => some (.int (Builtin.bitXor i j))
  | _, _ => none
def ltD : PyData → PyData → Option PyData
  | .int i, .int j => some (.bool (decide (i < j)))
  | _, _ => none
def leD : PyData → PyData → Option PyData
  | .int i, .int j => some (.bool (decide (i ≤ j)))
  | _, _ => none
def gtD : PyData → PyData → Option PyData
  | .int i, .int j => some (.bool (decide (j < i)))
  | _, _ => none
def geD : PyData → PyData → Option PyData
  | .int i, .int j => some (.bool (decide (j ≤ i)))
  | _, _ => none
/-- lists of unlike lengths; a tuple beside () -/
def cmpX : PyData → PyData → Option Bool
  | .list xs, .list ys => if xs.length = ys.length then none else some false
  | .tuple xs, .tuple [] => some xs.isEmpty
  | .int i, .int j => some (i == j)
  | .str x, .str y => some (x == y)
  | _, _ => none
def eqD (x y : PyData) : Option PyData := match cmpX x y with
  | some b => some (.bool b)
  | none => if SeqAt.shaped x = true ∧ SeqAt.shaped y = true then some (.bool (PyData.eqv x y)) else none
def neD (x y : PyData) : Option PyData := match cmpX x y with
  | some b => some (.bool (!b))
  | none => if SeqAt.shaped x = true ∧ SeqAt.shaped y = true then some (.bool (!PyData.eqv x y)) else none
def isN : PyData → Bool
  | .none => true
  | _ => false
def isND (x y : PyData) : Option PyData := match y with
  | .none => some (.bool (isN x))
  | _ => none
def isNotND (x y : PyData) : Option PyData := match y with
  | .none => some (.bool (!isN x))
  | _ => none
def negD : PyData → Option PyData
  | .int i => some (.int (-i))
  | _ => none
def invD : PyData → Option PyData
  | .int i => some (.int (Builtin.bitNot i))
  | _ => none

/-- an operation on two ints -/
theorem op_ints {X : Cx} {f : Value → Value → Sem Value} {C : Int → Int → Prop} {g : Int → Int → V} {gd : PyData → PyData → Option PyData} {d : Int → Int → PyData} (ho : OpR X f (rI C g)) (hd : ∀ F i j, Dq X.K F (g i j) (d i j))
    (hg : ∀ x y z, gd x y = some z → ∃ i j, x = .int i ∧ y = .int j ∧ C i j ∧ z = d i j) : OpR X f (rD X.K gd) := by
  rintro pins s σ H v w a b Q I ra rb ⟨F, x, y, z, sm, dx, dy, e, q⟩
  obtain ⟨i, j, rfl, rfl, hc, rfl⟩ := hg x y z e
  exact ho pins s σ H _ _ a b Q I ra rb ⟨i, j, dx, dy, hc, q _ F H (Ext.refl sm) (hd F i j)⟩
theorem op_ints0 {X : Cx} {f : Value → Value → Sem Value} {g : Int → Int → V} {gd : PyData → PyData → Option PyData} {d : Int → Int → PyData} (ho : OpR X f (rI0 g)) (hd : ∀ F i j, Dq X.K F (g i j) (d i j))
    (hg : ∀ x y z, gd x y = some z → ∃ i j, x = .int i ∧ y = .int j ∧ z = d i j) : OpR X f (rD X.K gd) := by
  rintro pins s σ H v w a b Q I ra rb ⟨F, x, y, z, sm, dx, dy, e, q⟩
  obtain ⟨i, j, rfl, rfl, rfl⟩ := hg x y z e
  exact ho pins s σ H _ _ a b Q I ra rb ⟨i, j, dx, dy, q _ F H (Ext.refl sm) (hd F i j)⟩
section
variable {X : Cx}
theorem op_addD : OpR X (binaryOp .Add) (rD X.K addD) := by
  rintro pins s σ H v w a b Q I ra rb ⟨F, x, y, z, sm, dx, dy, e, q⟩
  unfold addD at e
  split at e
  · cases e
    exact op_add pins s σ H _ _ a b Q I ra rb ⟨_, _, dx, dy, q _ F H (Ext.refl sm) (.int _)⟩
  · split at e
    · rename_i hz
      cases e
      exact op_add_str pins s σ H _ _ a b Q I ra rb ⟨_, _, dx, dy, hz, q _ F H (Ext.refl sm) (.str _)⟩
    · cases e
  · split at e
    · rename_i xs ys hz
      cases e
      obtain ⟨l, vs, rfl, h1, k1⟩ := dx
      obtain ⟨m, ws, rfl, h2, k2⟩ := dy
      refine op_cat pins s σ H _ _ a b Q I ra rb ⟨l, m, vs, ws, rfl, rfl, h1, h2, by rw [k1.length, k2.length]; exact hz, fun p hp => ?_⟩
      have x2 : Ext [] F H (upd F p (.lst (vs ++ ws))) (upd H p (.lst (vs ++ ws))) := Ext.keep sm hp
      exact q _ _ _ x2 (.lst upd_same ((k1.append k2).mono x2.f))
    · cases e
  · split at e
    · rename_i xs ys hz
      cases e
      obtain ⟨l, vs, rfl, h1, k1⟩ := dx
      obtain ⟨m, ws, rfl, h2, k2⟩ := dy
      have l1 := k1.length
      have l2 := k2.length
      refine op_catA pins s σ H _ _ a b Q I ra rb ⟨l, m, vs, ws, rfl, rfl, same_t sm h1, same_t sm h2, by rw [l1, l2]; exact hz, fun n1 => ?_, fun _ n2 => ?_, fun _ _ p hp => ?_⟩
      · subst n1
        cases k1
        exact q _ F H (Ext.refl sm) (.tup h2 k2)
      · subst n2
        cases k2
        rw [List.append_nil] at q
        exact q _ F H (Ext.refl sm) (.tup h1 k1)
      · have x2 : Ext [] F H (upd F p (.tup (vs ++ ws))) (upd H p (.tup (vs ++ ws))) := Ext.keep sm hp
        exact q _ _ _ x2 (.tup (.of upd_same) ((k1.append k2).mono x2.f))
    · cases e
  · cases e
theorem tup_mul_same (l : Addr) (items : Array Value) (n : Nat) (sl : Array (Option Value)) (dd : Option Addr) (x : Int) (u : Tok) (c0 : (decide (x < -(2 ^ 63)) || decide (x ≥ 2 ^ 63)) = false) (c1 : (items.isEmpty || x == 1) = true) :
    Meets (Builtin.«tuple.__mul__» ⟨[.ref l, .int x u], []⟩) (fun _ R s => s.heap.get? l = some { cls := .type "tuple", dict := dd, data := .seq items n, slots := sl } ∧ R (.ok (.ret (Value.ref l))) s) :=
  .of_wp fun prog w A R s h => by
    obtain ⟨hp, g, d, tk, os⟩ := s
    obtain ⟨hl, h⟩ := h
    have f1 := AutoSeq1.idx_int
    wp_walk using wpAny_loadPart' hl
    repeat (first
      | (refine wpAny_ite_false (decide_eq_false (by rw [c0]; exact Bool.false_ne_true)) ?_; wp_walk using wpAny_loadPart' hl)
      | (refine wpAny_ite_true (decide_eq_true c1) ?_; wp_walk using wpAny_loadPart' hl))
    exact ⟨_, rfl, h⟩
theorem op_repS {X : Cx} : OpR X (binaryOp .Mult) (fun x y H Q => ∃ l k xs, x = .ref l ∧ y = .int k ∧ SqT X.K H l xs ∧ -(2 ^ 63) ≤ k ∧ k < 2 ^ 63 ∧ (xs.isEmpty || k == 1) = true ∧ Q (.ref l) H) := by
  rintro pins s σ H x y v u Q I rx ry ⟨l, k, xs, rfl, rfl, hT, h1, h2, h3, q⟩
  cases rx
  obtain ⟨t, rfl⟩ := ry
  obtain ⟨its, r, ⟨⟨cls, dd, data, sl⟩, ho, hc, n, hd⟩, hs⟩ := I.tuple hT
  simp only at hc hd
  subst hc hd
  have c0 : (decide (k < -(2 ^ 63)) || decide (k ≥ 2 ^ 63)) = false := by
    rw [decide_eq_false (by omega), decide_eq_false (by omega)] <;> rfl
  have c1 : (its.toArray.isEmpty || k == 1) = true := by
    have : its.toArray.isEmpty = xs.isEmpty := by cases r <;> rfl
    rw [this]
    exact h3
  exact wpAny_binaryOp_repeat_ref (T := "tuple") (U := "int") (by decide) ⟨_, ho, rfl⟩ (fun s' => typeIs_int s' k t) noFill_tuple_mul F.fills_int_mul F.slot_int_rmul repeat_tuple F.slot_int_index.lookup
    (call_meets F.slot_int_rmul (typeIs_int s k t) F.entry_int_rmul (F.args_int_rmul_2 _ _) (int_rmul_tuple k t l its.toArray n dd sl)
      ⟨ho, rfl, ⟨_, ho, rfl⟩, call_meets F.slot_tuple_mul ⟨_, ho, rfl⟩ F.entry_tuple_mul (F.args_tuple_mul_2 _ _) (tup_mul_same l its.toArray n sl dd k t c0 c1) ⟨ho, .ref l, H, I.tok _, rfl, q⟩⟩)
theorem op_mulD : OpR X (binaryOp .Mult) (rD X.K mulD) := by
  rintro pins s σ H v w a b Q I ra rb ⟨F, x, y, z, sm, dx, dy, e, q⟩
  unfold mulD at e
  split at e
  · unfold mulI at e
    split at e
    · rename_i hz
      cases e
      exact op_mulX pins s σ H _ _ a b Q I ra rb ⟨_, _, dx, dy, hz, q _ F H (Ext.refl sm) (.int _)⟩
    · cases e
  · split at e
    · rename_i xs k hz
      cases e
      obtain ⟨l, vs, rfl, h1, k1⟩ := dx
      refine op_rep pins s σ H _ _ a b Q I ra rb ⟨l, _, vs, rfl, dy, h1, hz.1, hz.2.1, by rw [k1.length]; exact hz.2.2, fun p hp => ?_⟩
      have x2 : Ext [] F H (upd F p (.lst (List.replicate k.toNat vs).flatten)) (upd H p (.lst (List.replicate k.toNat vs).flatten)) := Ext.keep sm hp
      exact q _ _ _ x2 (.lst upd_same ((k1.rep _).mono x2.f))
    · cases e
  · rename_i xs k
    split at e
    · rename_i hz
      cases e
      obtain ⟨l, vs, rfl, h1, k1⟩ := dx
      have ev : vs.isEmpty = xs.isEmpty := by cases k1 <;> rfl
      exact op_repS pins s σ H _ _ a b Q I ra rb ⟨l, k, vs, rfl, dy, same_t sm h1, hz.1, hz.2.1, by rw [ev]; exact hz.2.2, q _ F H (Ext.refl sm) (.tup h1 k1)⟩
    split at e
    · rename_i _ hz
      cases e
      obtain ⟨l, vs, rfl, h1, k1⟩ := dx
      refine op_repT pins s σ H _ _ a b Q I ra rb ⟨l, _, vs, rfl, dy, same_t sm h1, fun n => ?_, hz.2.1, hz.2.2.1, by rw [k1.length]; exact hz.2.2.2, fun p hp => ?_⟩
      · subst n
        cases k1
        exact hz.1 rfl
      · have x2 : Ext [] F H (upd F p (.tup (List.replicate k.toNat vs).flatten)) (upd H p (.tup (List.replicate k.toNat vs).flatten)) := Ext.keep sm hp
        exact q _ _ _ x2 (.tup (.of upd_same) ((k1.rep _).mono x2.f))
    · cases e
  · cases e
theorem op_subD : OpR X (binaryOp .Sub) (rD X.K subD) := op_ints0 op_sub (d := fun i j => .int (i - j)) (fun F i j => .int _) fun x y z e => by
  unfold subD at e
  split at e
  · cases e; exact ⟨_, _, rfl, rfl, rfl⟩
  · cases e
theorem op_fdivD : OpR X (binaryOp .FloorDiv) (rD X.K fdivD) := op_ints op_fdivW (d := fun i j => .int (i / j)) (fun F i j => .int _) fun x y z e => by
  unfold fdivD at e
  split at e
  · split at e
    · rename_i hc
      cases e; exact ⟨_, _, rfl, rfl, hc, rfl⟩
    · cases e
  · cases e
theorem op_modD : OpR X (binaryOp .Mod) (rD X.K modD) := op_ints op_mod (d := fun i j => .int (i % j)) (fun F i j => .int _) fun x y z e => by
  unfold modD at e
  split at e
  · split at e
    · rename_i hc
      cases e; exact ⟨_, _, rfl, rfl, hc, rfl⟩
    · cases e
  · cases e
theorem op_powD : OpR X (binaryOp .Pow) (rD X.K powD) := op_ints op_pow (d := fun i j => .int (i ^ j.toNat)) (fun F i j => .int _) fun x y z e => by
  unfold powD at e
  split at e
  · split at e
    · rename_i hc
      cases e; exact ⟨_, _, rfl, rfl, hc, rfl⟩
    · cases e
  · cases e
theorem op_shlD : OpR X (binaryOp .LShift) (rD X.K shlD) := op_ints op_shlW (d := fun i j => .int (i * 2 ^ j.toNat)) (fun F i j => .int _) fun x y z e => by
  unfold shlD at e
  split at e
  · split at e
    · rename_i hc
      cases e; exact ⟨_, _, rfl, rfl, hc, rfl⟩
    · cases e
  · cases e
theorem op_ltD : OpR X (compareOp .Lt) (rD X.K ltD) := op_ints0 op_lt (d := fun i j => .bool (decide (i < j))) (fun F i j => .bl _) fun x y z e => by
  unfold ltD at e
  split at e
  · cases e; exact ⟨_, _, rfl, rfl, rfl⟩
  · cases e
theorem op_gtD : OpR X (compareOp .Gt) (rD X.K gtD) := op_ints0 op_gt (d := fun i j => .bool (decide (j < i))) (fun F i j => .bl _) fun x y z e => by
  unfold gtD at e
  split at e
  · cases e; exact ⟨_, _, rfl, rfl, rfl⟩
  · cases e
theorem op_geD : OpR X (compareOp .GtE) (rD X.K geD) := op_ints0 op_ge (d := fun i j => .bool (decide (j ≤ i))) (fun F i j => .bl _) fun x y z e => by
  unfold geD at e
  split at e
  · cases e; exact ⟨_, _, rfl, rfl, rfl⟩
  · cases e
/-! ### == -/
mutual
theorem Dq.dp {K : PySem.W.Frag} {F : Hp} : ∀ {v : V} {d : PyData}, Dq K F v d → d.canLay0 = true → Dp K F v d
  | _, _, .non, _ => .non
  | _, _, .bl b, _ => .bl b
  | _, _, .int i, _ => .int i
  | _, _, .str x, _ => .str x
  | _, _, .lst h a, c => .lst (.of h) (DqA.dp a (by simpa [PyData.canLay0] using c))
  | _, _, .tup h a, c => .tup h (DqA.dp a (by simpa [PyData.canLay0] using c))
  | _, _, .dct h a, c => by simp [PyData.canLay0] at c
theorem DqA.dp {K : PySem.W.Frag} {F : Hp} : ∀ {v : List V} {d : List PyData}, DqA K F v d → PyData.canLayAll0 d = true → DpAll K F v d
  | _, _, .nil, _ => .nil
  | _, _, .cons h t, c => by
    simp only [PyData.canLayAll0, Bool.and_eq_true] at c
    exact .cons (Dq.dp h c.1) (DqA.dp t c.2)
end
theorem same_l {K : PySem.W.Frag} {F F' : Hp} {a : Addr} {xs : List V} (e : Same F F') (h : SqL K F a xs) : SqL K F' a xs := e.seq h
mutual
theorem Dp.mono {K : PySem.W.Frag} {F F' : Hp} (e : Same F F') : ∀ {v : V} {d : PyData}, Dp K F v d → Dp K F' v d
  | _, _, .non => .non
  | _, _, .bl b => .bl b
  | _, _, .int i => .int i
  | _, _, .str x => .str x
  | _, _, .lst h a => .lst (same_l e h) (DpAll.mono e a)
  | _, _, .tup h a => .tup (same_t e h) (DpAll.mono e a)
theorem DpAll.mono {K : PySem.W.Frag} {F F' : Hp} (e : Same F F') : ∀ {v : List V} {d : List PyData}, DpAll K F v d → DpAll K F' v d
  | _, _, .nil => .nil
  | _, _, .cons h t => .cons (Dp.mono e h) (DpAll.mono e t)
end
theorem Dv.dp {K : PySem.W.Frag} {F H : Hp} {v : V} {d : PyData} (sm : Same F H) (h : Dv K F H v d) (c : d.canLay0 = true) : Dp K H v d := by
  cases d with
  | none => cases (show v = _ from h); exact .non
  | bool b => cases (show v = _ from h); exact .bl b
  | int i => cases (show v = _ from h); exact .int i
  | str x => cases (show v = _ from h); exact .str x
  | list ds => obtain ⟨a, vs, rfl, h1, k⟩ := h; exact .lst (.of h1) (DpAll.mono sm (k.dp (by simpa [PyData.canLay0] using c)))
  | tuple ds => obtain ⟨a, vs, rfl, h1, k⟩ := h; exact .tup (same_t sm h1) (DpAll.mono sm (k.dp (by simpa [PyData.canLay0] using c)))
  | dict es => simp [PyData.canLay0] at c
theorem cmp_lists {pins : List (Addr × Obj)} {s : Shared} {σ : L2.St} {H : Hp} {b c : Addr} {xs ys : List V} {op : CmpOp} {r : Bool} {Q : Value → Shared → Prop} (hu : X.A.units + 64 < cLine) (I : L2.Inv X pins σ H s) (h1 : H b = some (.lst xs)) (h2 : H c = some (.lst ys)) (hne : ¬ xs.length = ys.length)
    (hop : (op = .Eq ∧ r = false) ∨ (op = .NotEq ∧ r = true)) (q : Q (.bool r) s) : wpAny (model X.prog X.w) X.A (compareOp op (.ref b) (.ref c)) Q X.xe s := by
  obtain ⟨us, r1, p1, _⟩ := I.list (.of h1)
  obtain ⟨ws, r2, p2, _⟩ := I.list (.of h2)
  have hsz : (us.toArray.size != ws.toArray.size) = true := by
    rw [List.size_toArray, List.size_toArray, ← r1.length, ← r2.length]
    simpa using hne
  have hu2 : X.A.units < cLine := by omega
  rcases hop with ⟨rfl, rfl⟩ | ⟨rfl, rfl⟩
  · exact SeqAt.RcAt.lists_lengths p1.isList p2.isList hsz hu2 _ _ _ Q q
  · exact SeqAt.RcNeAt.lists_lengths p1.isList p2.isList hsz hu2 _ _ _ Q q
theorem cmp_tup0 {pins : List (Addr × Obj)} {s : Shared} {σ : L2.St} {H : Hp} {b c : Addr} {xs : List V} {op : CmpOp} {r : Bool} {Q : Value → Shared → Prop} (hu : X.A.units + 64 < cLine) (I : L2.Inv X pins σ H s) (h1 : SqT X.K H b xs) (h2 : SqT X.K H c [])
    (hop : (op = .Eq ∧ r = xs.isEmpty) ∨ (op = .NotEq ∧ r = !xs.isEmpty)) (q : Q (.bool r) s) : wpAny (model X.prog X.w) X.A (compareOp op (.ref b) (.ref c)) Q X.xe s := by
  obtain ⟨us, r1, ⟨o1, g1, c1, n1, d1⟩, _⟩ := I.tuple h1
  obtain ⟨ws, r2, ⟨o2, g2, c2, n2, d2⟩, _⟩ := I.tuple h2
  cases r2
  have hu2 : X.A.units < cLine := by omega
  have t1 : s.heap.IsTuple b us.toArray := ⟨o1, g1, c1, n1, d1⟩
  have t2 : s.heap.IsTuple c ([] : List Value).toArray := ⟨o2, g2, c2, n2, d2⟩
  have ev : xs.isEmpty = us.isEmpty := by cases r1 <;> rfl
  have es : ((List.range (min us.toArray.size ([] : List Value).toArray.size)).all (fun _ => true) && us.toArray.size == ([] : List Value).toArray.size) = xs.isEmpty := by
    rw [ev]
    cases us <;> simp
  rcases hop with ⟨rfl, rfl⟩ | ⟨rfl, rfl⟩
  · refine SeqAt.RcAt.tuples (e := fun _ => true) t1 t2 hu2 (fun j _ h => absurd h (by simp)) _ _ _ Q ?_
    rw [es]
    exact q
  · refine SeqAt.RcNeAt.tuples (e := fun _ => true) t1 t2 hu2 (fun j _ h => absurd h (by simp)) _ _ _ Q ?_
    rw [es]
    exact q
theorem cmpX_run {pins : List (Addr × Obj)} {s : Shared} {σ : L2.St} {F H : Hp} {v w : V} {a b : Value} {x y : PyData} {op : CmpOp} {k r : Bool} {Q : Value → Shared → Prop} (hu : X.A.units + 64 < cLine) (I : L2.Inv X pins σ H s) (sm : Same F H) (ra : RelV v a) (rb : RelV w b) (dx : Dv X.K F H v x) (dy : Dv X.K F H w y) (e : cmpX x y = some k)
    (hop : (op = .Eq ∧ r = k) ∨ (op = .NotEq ∧ r = !k)) (q : Q (.bool r) s) : wpAny (model X.prog X.w) X.A (compareOp op a b) Q X.xe s := by
  unfold cmpX at e
  split at e
  · split at e
    · cases e
    · rename_i hne
      cases e
      obtain ⟨p1, vs, rfl, h1, k1⟩ := dx
      obtain ⟨p2, ws, rfl, h2, k2⟩ := dy
      cases ra
      cases rb
      exact cmp_lists hu I h1 h2 (by rw [k1.length, k2.length]; exact hne) hop q
  · rename_i xs0
    cases e
    obtain ⟨p1, vs, rfl, h1, k1⟩ := dx
    obtain ⟨p2, ws, rfl, h2, k2⟩ := dy
    cases k2
    cases ra
    cases rb
    have ev : vs.isEmpty = xs0.isEmpty := by
      cases k1
      · exact rfl
      · exact rfl
    exact cmp_tup0 hu I (same_t sm h1) (same_t sm h2) (by rw [ev]; exact hop) q
  · cases e
    cases (show v = _ from dx)
    cases (show w = _ from dy)
    obtain ⟨t1, rfl⟩ := ra
    obtain ⟨t2, rfl⟩ := rb
    rcases hop with ⟨rfl, rfl⟩ | ⟨rfl, rfl⟩
    · exact SeqAt.RcAt.int_int _ _ _ _ _ _ _ Q q
    · exact SeqAt.RcNeAt.int_int _ _ _ _ _ _ _ Q q
  · cases e
    cases (show v = _ from dx)
    cases (show w = _ from dy)
    obtain ⟨t1, rfl⟩ := ra
    obtain ⟨t2, rfl⟩ := rb
    rcases hop with ⟨rfl, rfl⟩ | ⟨rfl, rfl⟩
    · exact SeqAt.RcAt.str_str _ _ _ _ _ _ _ Q q
    · exact SeqAt.RcNeAt.str_str _ _ _ _ _ _ _ Q q
  · cases e
theorem op_eqDD (hu : X.A.units + 64 < cLine) : OpR X (compareOp .Eq) (rD X.K eqD) := by
  rintro pins s σ H v w a b Q I ra rb ⟨F, x, y, z, sm, dx, dy, e, q⟩
  unfold eqD at e
  split at e
  · rename_i k ek
    cases e
    exact cmpX_run hu I sm ra rb dx dy ek (.inl ⟨rfl, rfl⟩) ⟨.bl k, H, I, rfl, q _ F H (Ext.refl sm) (.bl _)⟩
  · split at e
    · rename_i hz
      cases e
      exact op_eqD hu pins s σ H _ _ a b Q I ra rb ⟨x, y, dx.dp sm (SeqAt.canLay_of_shaped hz.1), dy.dp sm (SeqAt.canLay_of_shaped hz.2), hz.1, hz.2, q _ F H (Ext.refl sm) (.bl _)⟩
    · cases e
theorem op_neDD (hu : X.A.units + 64 < cLine) : OpR X (compareOp .NotEq) (rD X.K neD) := by
  rintro pins s σ H v w a b Q I ra rb ⟨F, x, y, z, sm, dx, dy, e, q⟩
  unfold neD at e
  split at e
  · rename_i k ek
    cases e
    exact cmpX_run hu I sm ra rb dx dy ek (.inr ⟨rfl, rfl⟩) ⟨.bl (!k), H, I, rfl, q _ F H (Ext.refl sm) (.bl _)⟩
  · split at e
    · rename_i hz
      cases e
      exact op_neD hu pins s σ H _ _ a b Q I ra rb ⟨x, y, dx.dp sm (SeqAt.canLay_of_shaped hz.1), dy.dp sm (SeqAt.canLay_of_shaped hz.2), hz.1, hz.2, q _ F H (Ext.refl sm) (.bl _)⟩
    · cases e
end
end Mi
/-! Chains of comparisons, items, slices, built-in functions on data. -/
namespace Mi
open PySem L2

section
variable {Γ : Gm} {X : Cx} {a b c : Expr} {fa fb fc : ME Γ.T} {pos : Pos}
def mChain {T : Type} (g1 g2 : PyData → PyData → Option PyData) (fa fb fc : ME T) : ME T := fun ρ t => do
  let (r1, t1) ← fa ρ t
  let (r2, t2) ← fb ρ t1
  let x ← rd ρ r1
  let y ← rd ρ r2
  match g1 x y with
  | some (.bool true) => do
    let (r3, t3) ← fc ρ t2
    let w ← rd ρ r3
    let z ← g2 y w
    pure (.fro z, t3)
  | some (.bool false) => some (.fro (.bool false), t2)
  | _ => none
/-! ### items -/
def keyD : PyData → Option Key
  | .int i => some (.inl i)
  | .str x => some (.inr x)
  | _ => none
def dgetK : List (PyData × PyData) → Key → Option PyData
  | [], _ => none
  | (a, d) :: r, k => if keyD a = some k then some d else dgetK r k
theorem keyD_k (k : Key) : keyD (kD k) = some k := by cases k <;> rfl
theorem dgetK_ok {K : PySem.W.Frag} {F : Hp} {k : Key} {d : PyData} : ∀ {kvs : List (Key × V)} {es : List (PyData × PyData)}, DqK K F kvs es → dgetK es k = some d → ∃ v, valV kvs k = some v ∧ Dq K F v d
  | _, _, .nil, e => by cases e
  | (k', v) :: kvs, _, .cons h t, e => by
    unfold dgetK at e
    rw [keyD_k] at e
    split at e
    · rename_i hk
      cases hk
      cases e
      exact ⟨v, valV_pos rfl, h⟩
    · rename_i hk
      obtain ⟨w, h1, h2⟩ := dgetK_ok t e
      exact ⟨w, by rw [valV_neg (fun z => hk (by rw [show k' = k from z]))]; exact h1, h2⟩
def ixD : PyData → PyData → Option PyData
  | .list xs, .int i => atI xs i
  | .tuple xs, .int i => atI xs i
  | .str z, .int i => if z.length ≤ sizeLine then (atI z.cps.toList i).map fun c => .str ⟨#[c]⟩ else none
  | .dict es, .str k => dgetK es (.inr k)
  | .dict es, .int k => dgetK es (.inl k)
  | _, _ => none
theorem at_dq {K : PySem.W.Frag} {F : Hp} {vs : List V} {ds : List PyData} {i : Int} {d : PyData} (k : DqA K F vs ds) (h : atI ds i = some d) : ∃ v, atI vs i = some v ∧ Dq K F v d := by
  unfold atI at h ⊢
  rw [k.length]
  cases e : ixN ds.length i with
  | none => rw [e] at h; cases h
  | some j =>
    rw [e] at h
    exact k.get h
theorem ix_D (hu : X.A.units + 1 < cLine) : IxR X (rD X.K ixD) := by
  rintro ve se pins s σ H v w a b Q I ra rb ⟨F, x, y, z, sm, dx, dy, e, q⟩ hs
  unfold ixD at e
  split at e
  · obtain ⟨l, vs, rfl, h1, k1⟩ := dx
    obtain ⟨u, hu, dq⟩ := at_dq k1 e
    exact ix_list ve se pins s σ H _ _ a b Q I ra rb ⟨l, vs, _, u, rfl, dy, .of h1, hu, q _ F H (Ext.refl sm) dq⟩ hs
  · obtain ⟨l, vs, rfl, h1, k1⟩ := dx
    obtain ⟨u, hu, dq⟩ := at_dq k1 e
    exact ix_tup ve se pins s σ H _ _ a b Q I ra rb ⟨l, vs, _, u, rfl, dy, same_t sm h1, hu, q _ F H (Ext.refl sm) dq⟩ hs
  · split at e
    · rename_i hz
      cases e2 : atI _ _ with
      | none => rw [e2] at e; cases e
      | some c =>
        rw [e2] at e
        cases e
        exact ix_str ve se pins s σ H _ _ a b Q I ra rb ⟨_, _, c, dx, dy, hz, e2, q _ F H (Ext.refl sm) (.str _)⟩ hs
    · cases e
  · obtain ⟨l, kvs, rfl, h1, k1⟩ := dx
    obtain ⟨x, hw, kw⟩ := dgetK_ok k1 e
    cases (show w = V.str _ from dy)
    cases (show a = Value.ref l from ra)
    have g : DGet H l (kV (.inr _)) (some x) := .inl ⟨kvs, _, .inl h1, rfl, hw.symm⟩
    exact PyProof.Rows.tail_any (dict_typeIs I g) PySem.F.slot_dict_getitem.lookup (d_getItem hu I g rb fun w' s3 I3 rw' => ⟨x, H, I3, rw', q _ F H (Ext.refl sm) kw⟩) hs
  · obtain ⟨l, kvs, rfl, h1, k1⟩ := dx
    obtain ⟨x, hw, kw⟩ := dgetK_ok k1 e
    cases (show w = V.int _ from dy)
    cases (show a = Value.ref l from ra)
    have g : DGet H l (kV (.inl _)) (some x) := .inl ⟨kvs, _, .inl h1, rfl, hw.symm⟩
    exact PyProof.Rows.tail_any (dict_typeIs I g) PySem.F.slot_dict_getitem.lookup (d_getItem hu I g rb fun w' s3 I3 rw' => ⟨x, H, I3, rw', q _ F H (Ext.refl sm) kw⟩) hs
  · cases e
theorem pe_ixD {g : PyData → PyData → Option PyData} (hr : IxR X (rD Γ.K g)) (ha : PE X a (den Γ fa)) (hb : PE X b (den Γ fb)) (hs : PlainIx b) : PE X (.Subscript a b pos) (den Γ (mBin g fa fb)) := pe_w (pe_ix hr ha hb hs) w_op

/-! ### slices -/
def mNoP {T : Type} : Env → T → Option (Option Int × T) := fun _ t => some (none, t)
def mPart {T : Type} (f : ME T) : Env → T → Option (Option Int × T) := fun ρ t => match f ρ t with
  | some (.fro (.int i), t') => some (some i, t')
  | _ => none
def cutL {α : Type} (xs : List α) (lo hi : Option Int) : List α := (xs.drop (HT.sIx xs.length 0 lo)).take (HT.sIx xs.length xs.length hi - HT.sIx xs.length 0 lo)
theorem DqA.cut {K : PySem.W.Frag} {F : Hp} {vs : List V} {ds : List PyData} (k : DqA K F vs ds) (lo hi : Option Int) : DqA K F (cutV vs lo hi) (cutL ds lo hi) := by
  unfold cutV cutL
  rw [k.length]
  exact (k.drop _).take _
def sliceD (d : PyData) (lo hi : Option Int) : Option PyData := match d with
  | .list xs => some (.list (cutL xs lo hi))
  | .tuple xs => some (.tuple (cutL xs lo hi))
  | .str z => if z.length ≤ sizeLine then some (.str (cutS z lo hi)) else none
  | _ => none
def mSl {T : Type} (f : ME T) (l h : Env → T → Option (Option Int × T)) : ME T := fun ρ t => do
  let (r1, t1) ← f ρ t
  let (lo, t2) ← l ρ t1
  let (hi, t3) ← h ρ t2
  let x ← rd ρ r1
  let z ← sliceD x lo hi
  pure (.fro z, t3)
/-! ### built-in functions -/
inductive DvA (K : PySem.W.Frag) (F H : Hp) : List V → List PyData → Prop
  | nil : DvA K F H [] []
  | cons {v : V} {vs : List V} {d : PyData} {ds : List PyData} : Dv K F H v d → DvA K F H vs ds → DvA K F H (v :: vs) (d :: ds)
def rC (K : PySem.W.Frag) (g : List PyData → Option PyData) : List V → Hp → VK → Prop := fun vs H Q => ∃ F xs z, Same F H ∧ DvA K F H vs xs ∧ g xs = some z ∧ ∀ u F' H', Ext [] F H F' H' → Dq K F' u z → Q u H'
def mCall {T : Type} (g : List PyData → Option PyData) (fs : Env → T → Option (List Rv × T)) : ME T := fun ρ t => do
  let (rs, t1) ← fs ρ t
  let xs ← rds ρ rs
  let z ← g xs
  pure (.fro z, t1)
theorem reads {F H : Hp} {σ : L2.St} {ρ : Env} {t : Γ.T} (R : Rep Γ F H σ ρ t) : ∀ {vs : List V} {rs : List Rv} {xs : List PyData}, RvsOk Γ F σ vs rs → rds ρ rs = some xs → DvA Γ.K F H vs xs
  | _, _, _, .nil, e => by cases e; exact .nil
  | _, _, _, .cons h k, e => by
    obtain ⟨x, ex, e⟩ := bind_some e
    obtain ⟨xs, exs, e⟩ := bind_some e
    cases e
    exact .cons (R.read h ex) (reads R k exs)
variable {es : List Expr} {ga : Env → Γ.T → Option (List Rv × Γ.T)} {x : Str} {p : Pos}
theorem w_call {g : List PyData → Option PyData} (σ : L2.St) (H : Hp) (Q : VK) : den Γ (mCall g ga) σ H Q → tCB (rC Γ.K g) (denA Γ ga) σ H Q := by
  rintro ⟨F, ρ, t, r, t', R, e, q⟩
  obtain ⟨⟨rs, t1⟩, e1, e⟩ := bind_some e
  obtain ⟨xs, exs, e⟩ := bind_some e
  obtain ⟨z, ez, e⟩ := bind_some e
  cases e
  refine ⟨F, ρ, t, _, _, R, e1, fun vs F1 H1 R1 x1 k1 => ?_⟩
  exact ⟨F1, xs, z, R1.ex, reads R1 k1 exs, ez, fun u F2 H2 x2 k2 => q u F2 H2 (R1.ext0 x2) (x1.then x2.wide (R1.ext0 x2)) k2⟩
theorem pe_bD {id : String} {g : List PyData → Option PyData} (hc : CallR X (.builtin id) (rC Γ.K g)) (hg : Gl X x) (hm : X.mg x = none) (hv : bootBuiltins x = some (.builtin id)) (ha : PA X (a :: es) (denA Γ ga)) (hn : x ≠ "__name__" := by decide) (hdb : (x == ("__debug__" : Str)) = false := by decide)
    (he : starEach (a :: es) X.env = (false, eval a X.env) :: starEach es X.env := by rfl) (hpl : (backTo pos (starEach es X.env)).any (·.1) = false := by rfl) : PE X (.Call (.Name x p) (a :: es) [] pos) (den Γ (mCall g ga)) := pe_w (pe_callB hc hg hm hv ha hn hdb he hpl) w_call
theorem pe_tyD {ty : String} {g : List PyData → Option PyData} (hc : CallR X (.type ty) (rC Γ.K g)) (hg : Gl X x) (hm : X.mg x = none) (hv : bootBuiltins x = some (.type ty)) (ha : PA X (a :: es) (denA Γ ga)) (hn : x ≠ "__name__" := by decide) (hdb : (x == ("__debug__" : Str)) = false := by decide)
    (he : starEach (a :: es) X.env = (false, eval a X.env) :: starEach es X.env := by rfl) (hpl : (backTo pos (starEach es X.env)).any (·.1) = false := by rfl) : PE X (.Call (.Name x p) (a :: es) [] pos) (den Γ (mCall g ga)) := pe_w (pe_callTy hc hg hm hv ha hn hdb he hpl) w_call

def lenD : List PyData → Option PyData
  | [.list xs] => some (.int xs.length)
  | [.tuple xs] => some (.int xs.length)
  | [.str z] => if z.length ≤ sizeLine then some (.int z.length) else none
  | [.dict es] => some (.int es.length)
  | _ => none
def absD : List PyData → Option PyData
  | [.int i] => some (.int (if i < 0 then -i else i))
  | _ => none
def minD : List PyData → Option PyData
  | [.int i, .int j] => some (.int (if j < i then j else i))
  | _ => none
def intD : List PyData → Option PyData
  | [.int i] => some (.int i)
  | [.bool b] => some (.int (if b then 1 else 0))
  | _ => none
def tupleD : List PyData → Option PyData
  | [.list xs] => some (.tuple xs)
  | [.tuple xs] => some (.tuple xs)
  | _ => none
def listD : List PyData → Option PyData
  | [.list xs] => some (.list xs)
  | [.tuple xs] => some (.list xs)
  | _ => none
def intsOf : List PyData → Option (List Int)
  | [] => some []
  | .int i :: r => (intsOf r).map (i :: ·)
  | _ => none
def sumD : List PyData → Option PyData
  | [.list xs] => (intsOf xs).map fun ns => .int ns.sum
  | _ => none
theorem f1 {K : PySem.W.Frag} {F H : Hp} {l : List V} {b : PyData} (h : DvA K F H l [b]) : ∃ a, l = [a] ∧ Dv K F H a b := by
  cases h with
  | cons h t => cases t; exact ⟨_, rfl, h⟩
theorem call_lenDD : CallR X (.builtin "len") (rC X.K lenD) := by
  rintro pins s σ H vs us Q I r ⟨F, xs, z, sm, dx, e, q⟩
  unfold lenD at e
  split at e
  · cases e
    obtain ⟨v, rfl, l, ws, rfl, h1, k1⟩ := f1 dx
    exact call_len pins s σ H _ us Q I r ⟨_, _, rfl, .inl ⟨ws, .of h1, k1.length.symm⟩, q _ F H (Ext.refl sm) (.int _)⟩
  · cases e
    obtain ⟨v, rfl, l, ws, rfl, h1, k1⟩ := f1 dx
    exact call_len pins s σ H _ us Q I r ⟨_, _, rfl, .inr ⟨ws, same_t sm h1, k1.length.symm⟩, q _ F H (Ext.refl sm) (.int _)⟩
  · split at e
    · rename_i hz
      cases e
      obtain ⟨v, rfl, h⟩ := f1 dx
      cases (show v = _ from h)
      exact call_len pins s σ H _ us Q I r ⟨_, _, rfl, ⟨hz, rfl⟩, q _ F H (Ext.refl sm) (.int _)⟩
    · cases e
  · cases e
    obtain ⟨v, rfl, l, ws, rfl, h1, k1⟩ := f1 dx
    exact call_lenD pins s σ H _ us Q I r ⟨l, ws, rfl, h1, by rw [k1.length]; exact q _ F H (Ext.refl sm) (.int _)⟩
  · cases e
theorem call_absDD : CallR X (.builtin "abs") (rC X.K absD) := by
  rintro pins s σ H vs us Q I r ⟨F, xs, z, sm, dx, e, q⟩
  unfold absD at e
  split at e
  · cases e
    obtain ⟨v, rfl, h⟩ := f1 dx
    cases (show v = _ from h)
    exact call_abs pins s σ H _ us Q I r ⟨_, rfl, q _ F H (Ext.refl sm) (.int _)⟩
  · cases e
theorem call_intDD : CallR X (.type "int") (rC X.K intD) := by
  rintro pins s σ H vs us Q I r ⟨F, xs, z, sm, dx, e, q⟩
  unfold intD at e
  split at e
  · cases e
    obtain ⟨v, rfl, h⟩ := f1 dx
    cases (show v = _ from h)
    exact call_int1 pins s σ H _ us Q I r (.inl ⟨_, rfl, q _ F H (Ext.refl sm) (.int _)⟩)
  · cases e
    obtain ⟨v, rfl, h⟩ := f1 dx
    cases (show v = _ from h)
    exact call_int1 pins s σ H _ us Q I r (.inr ⟨_, rfl, q _ F H (Ext.refl sm) (.int _)⟩)
  · cases e
theorem call_tupleDD : CallR X (.type "tuple") (rC X.K tupleD) := by
  rintro pins s σ H vs us Q I r ⟨F, xs, z, sm, dx, e, q⟩
  unfold tupleD at e
  split at e
  · cases e
    obtain ⟨v, rfl, l, ws, rfl, h1, k1⟩ := f1 dx
    refine call_tuple_of pins s σ H _ us Q I r ⟨l, ws, rfl, .inl ⟨.of h1, fun p hp => ?_⟩⟩
    have x2 : Ext [] F H (upd F p (.tup ws)) (upd H p (.tup ws)) := Ext.keep sm hp
    exact q _ _ _ x2 (.tup (.of upd_same) (k1.mono x2.f))
  · cases e
    obtain ⟨v, rfl, l, ws, rfl, h1, k1⟩ := f1 dx
    exact call_tuple_of pins s σ H _ us Q I r ⟨l, ws, rfl, .inr ⟨same_t sm h1, q _ F H (Ext.refl sm) (.tup h1 k1)⟩⟩
  · cases e
theorem call_listDD : CallR X (.type "list") (rC X.K listD) := by
  rintro pins s σ H vs us Q I r ⟨F, xs, z, sm, dx, e, q⟩
  unfold listD at e
  split at e
  · cases e
    obtain ⟨v, rfl, l, ws, rfl, h1, k1⟩ := f1 dx
    refine call_list_of pins s σ H _ us Q I r ⟨l, ws, rfl, .inl (.of h1), fun p hp => ?_⟩
    have x2 : Ext [] F H (upd F p (.lst ws)) (upd H p (.lst ws)) := Ext.keep sm hp
    exact q _ _ _ x2 (.lst upd_same (k1.mono x2.f))
  · cases e
    obtain ⟨v, rfl, l, ws, rfl, h1, k1⟩ := f1 dx
    refine call_list_of pins s σ H _ us Q I r ⟨l, ws, rfl, .inr (same_t sm h1), fun p hp => ?_⟩
    have x2 : Ext [] F H (upd F p (.lst ws)) (upd H p (.lst ws)) := Ext.keep sm hp
    exact q _ _ _ x2 (.lst upd_same (k1.mono x2.f))
  · cases e
theorem intsOf_dq {K : PySem.W.Frag} {F : Hp} : ∀ {vs : List V} {ds : List PyData} {ns : List Int}, DqA K F vs ds → intsOf ds = some ns → vs = ns.map V.int
  | _, _, _, .nil, e => by cases e; rfl
  | _, .int i :: r, ns, .cons h t, e => by
    unfold intsOf at e
    cases z : intsOf r with
    | none => rw [z] at e; cases e
    | some l =>
      rw [z] at e
      cases e
      cases h
      rw [intsOf_dq t z]
      rfl
  | _, .none :: _, _, .cons _ _, e => by cases e
  | _, .bool _ :: _, _, .cons _ _, e => by cases e
  | _, .str _ :: _, _, .cons _ _, e => by cases e
  | _, .list _ :: _, _, .cons _ _, e => by cases e
  | _, .tuple _ :: _, _, .cons _ _, e => by cases e
  | _, .dict _ :: _, _, .cons _ _, e => by cases e
theorem call_sumDD (hc : X.calm = true) : CallR X (.builtin "sum") (rC X.K sumD) := by
  rintro pins s σ H vs us Q I r ⟨F, xs, z, sm, dx, e, q⟩
  unfold sumD at e
  split at e
  · obtain ⟨v, rfl, l, ws, rfl, h1, k1⟩ := f1 dx
    cases z2 : intsOf _ with
    | none => rw [z2] at e; cases e
    | some ns =>
      rw [z2] at e
      cases e
      have ew := intsOf_dq k1 z2
      subst ew
      exact cr_sum hc pins s σ H _ us Q I r ⟨l, ns, rfl, .of h1, q _ F H (Ext.refl sm) (.int _)⟩
  · cases e

/-! ### isinstance -/
def tyN : PyData → String
  | .none => "NoneType"
  | .bool _ => "bool"
  | .int _ => "int"
  | .str _ => "str"
  | .list _ => "list"
  | .tuple _ => "tuple"
  | .dict _ => "dict"
def isTy (n : String) (d : PyData) : Bool := tyN d == n || (n == "int" && tyN d == "bool")
/-- isinstance(x, T), T a built-in class by its name -/
def mIsi {T : Type} (n : String) (f : ME T) : ME T := fun ρ t => do
  let (r1, t1) ← f ρ t
  let x ← rd ρ r1
  pure (.fro (.bool (isTy n x)), t1)
/-! ### in -/
def flatP : PyData → Bool
  | .none => true
  | .bool _ => true
  | .int _ => true
  | .str _ => true
  | _ => false
def itemsOf : PyData → Option (List PyData)
  | .list xs => some xs
  | .tuple xs => some xs
  | _ => none
def inD (x y : PyData) : Option PyData := match itemsOf y with
  | some ys => if flatP x && ys.all flatP then some (.bool (ys.any fun d => PyData.eqv d x)) else none
  | none => none
def notInD (x y : PyData) : Option PyData := match itemsOf y with
  | some ys => if flatP x && ys.all flatP then some (.bool (!ys.any fun d => PyData.eqv d x)) else none
  | none => none
theorem flat_dq {K : PySem.W.Frag} {F : Hp} {v : V} {d : PyData} (h : Dq K F v d) (f : flatP d = true) : flatV v = true ∧ ∀ w e, Dq K F w e → flatP e = true → eqV v w = PyData.eqv d e := by
  cases h with
  | non => exact ⟨rfl, fun w e h g => by cases h <;> first | rfl | cases g⟩
  | bl b => exact ⟨rfl, fun w e h g => by cases h <;> first | rfl | cases g⟩
  | int i => exact ⟨rfl, fun w e h g => by cases h <;> first | rfl | cases g⟩
  | str x => exact ⟨rfl, fun w e h g => by cases h <;> first | rfl | cases g⟩
  | lst _ _ => cases f
  | tup _ _ => cases f
  | dct _ _ => cases f
theorem flat_in {K : PySem.W.Frag} {F : Hp} {v : V} {d : PyData} (h : Dq K F v d) (f : flatP d = true) : ∀ {ws : List V} {es : List PyData}, DqA K F ws es → es.all flatP = true → ws.all flatV = true ∧ inV v ws = es.any fun e => PyData.eqv e d
  | _, _, .nil, _ => ⟨rfl, rfl⟩
  | _, _, .cons g t, c => by
    rw [List.all_cons, Bool.and_eq_true] at c
    obtain ⟨i1, i2⟩ := flat_in h f t c.2
    obtain ⟨j1, j2⟩ := flat_dq g c.1
    refine ⟨by rw [List.all_cons, j1, i1]; rfl, ?_⟩
    unfold inV at i2 ⊢
    rw [List.any_cons, List.any_cons, i2, j2 _ _ h f]
theorem dv_flat {K : PySem.W.Frag} {F H : Hp} {v : V} {d : PyData} (h : Dv K F H v d) (f : flatP d = true) : Dq K F v d := by
  cases d with
  | none => cases (show v = _ from h); exact .non
  | bool b => cases (show v = _ from h); exact .bl b
  | int i => cases (show v = _ from h); exact .int i
  | str x => cases (show v = _ from h); exact .str x
  | list ds => cases f
  | tuple ds => cases f
  | dict es => cases f
theorem items_dv {K : PySem.W.Frag} {F H : Hp} {v : V} {d : PyData} {ys : List PyData} (sm : Same F H) (h : Dv K F H v d) (e : itemsOf d = some ys) : ∃ a ws, v = .ref a ∧ (SqL K H a ws ∨ SqT K H a ws) ∧ DqA K F ws ys := by
  unfold itemsOf at e
  split at e
  · cases e; obtain ⟨a, vs, rfl, h1, k⟩ := h; exact ⟨a, vs, rfl, .inl (.of h1), k⟩
  · cases e; obtain ⟨a, vs, rfl, h1, k⟩ := h; exact ⟨a, vs, rfl, .inr (same_t sm h1), k⟩
  · cases e
theorem op_inD : OpR X (compareOp .In) (rD X.K inD) := by
  rintro pins s σ H v w a b Q I ra rb ⟨F, x, y, z, sm, dx, dy, e, q⟩
  unfold inD at e
  split at e
  · rename_i ys ey
    split at e
    · rename_i hf
      rw [Bool.and_eq_true] at hf
      cases e
      obtain ⟨p, ws, rfl, h1, k⟩ := items_dv sm dy ey
      obtain ⟨i1, i2⟩ := flat_in (dv_flat dx hf.1) hf.1 k hf.2
      refine op_in_seq pins s σ H _ _ a b Q I ra rb ⟨p, ws, rfl, h1, (flat_dq (dv_flat dx hf.1) hf.1).1, i1, ?_⟩
      rw [i2]
      exact q _ F H (Ext.refl sm) (.bl _)
    · cases e
  · cases e
end
end Mi
/-! Mirrors of targets and statements. -/
namespace Mi
open PySem L2

/-! ### slots set -/
theorem get_set {α : Type} {l : List (Option α)} {i j : Nat} {x : Option α} {y : α} (h : (l.set i x)[j]? = some (some y)) : (i = j ∧ x = some y) ∨ (i ≠ j ∧ l[j]? = some (some y)) := by
  by_cases e : i = j
  · subst e
    rw [List.getElem?_set_self'] at h
    cases q : l[i]? with
    | none => rw [q] at h; cases h
    | some z => rw [q] at h; exact .inl ⟨rfl, Option.some.inj h⟩
  · rw [List.getElem?_set_ne e] at h
    exact .inr ⟨e, h⟩
theorem set_get {α β : Type} {l : List α} {k : List β} {i : Nat} {x : α} {y : β} (hl : l.length = k.length) (h : ∃ z, (l.set i x)[i]? = some z) : (k.set i y)[i]? = some y := by
  obtain ⟨z, h⟩ := h
  have hi : i < l.length := by
    by_cases q : i < l.length
    · exact q
    · rw [List.getElem?_eq_none (by rw [List.length_set]; omega)] at h; cases h
  rw [List.getElem?_set_self (by omega)]
/-- values with the slot's content they are to have; F, H now, H1 ahead of their making -/
inductive NsOk (Γ : Gm) (H1 F H : Hp) (σ : L2.St) (ρ : Env) : List V → List Val → Prop
  | nil : NsOk Γ H1 F H σ ρ [] []
  | fro {v : V} {d : PyData} {vs : List V} {ws : List Val} : Dq Γ.K F v d → NsOk Γ H1 F H σ ρ vs ws → NsOk Γ H1 F H σ ρ (v :: vs) (.fro d :: ws)
  | bor {v : V} {d : PyData} {vs : List V} {ws : List Val} : (Dq Γ.K F v d ∨ ∃ a o, v = .ref a ∧ Own Γ.K F H a d ∧ a ∉ Γ.S ∧ Γ.F0 a = none ∧ Γ.H0 a = some o) → NsOk Γ H1 F H σ ρ vs ws → NsOk Γ H1 F H σ ρ (v :: vs) (.bor d :: ws)
  | tray {k : Nat} {v : V} {vs : List V} {ws : List Val} : v = Γ.ta k → NsOk Γ H1 F H σ ρ vs ws → NsOk Γ H1 F H σ ρ (v :: vs) (.tray k :: ws)
  | own {a : Addr} {d : PyData} {vs : List V} {ws : List Val} : Fresh Γ H1 F H σ ρ a d → NsOk Γ H1 F H σ ρ vs ws → (∀ (j : Nat) (e : PyData), ws[j]? = some (.own e) → vs[j]? ≠ some (.ref a)) → NsOk Γ H1 F H σ ρ (.ref a :: vs) (.own d :: ws)
  | kd {a : Addr} {es : List (NestedKey × PyData)} {vs : List V} {ws : List Val} : (OwnT Γ.w Γ.K F H a es ∧ Γ.H0 a = none ∧ a ∉ Γ.S) → NsOk Γ H1 F H σ ρ vs ws → NsOk Γ H1 F H σ ρ (.ref a :: vs) (.kd es :: ws)
section
variable {Γ : Gm} {F H F' H' H1 : Hp} {σ : L2.St} {ρ : Env} {t t' : Γ.T}
/-- one slot -/
theorem Rep.put {i : Nat} {v : V} {w : Val} (R : Rep Γ F H σ ρ t) (hs : (∃ z, (ρ.set i (some w))[i]? = some z) → SlotOk Γ F H (σ.set i (some v)) i w)
    (hw : ∀ d, w = .own d → ∀ (j : Nat) (e : PyData), ρ[j]? = some (some (.own e)) → σ[j]? ≠ some (some v)) : Rep Γ F H (σ.set i (some v)) (ρ.set i (some w)) t := by
  refine { R.toFin with len := by rw [List.length_set, List.length_set]; exact R.len, slots := fun j x hx => ?_, sep := fun j k a d e hjk hj hk sj => ?_ }
  · rcases get_set hx with ⟨rfl, hw2⟩ | ⟨hne, hx2⟩
    · cases hw2
      exact hs ⟨_, hx⟩
    · have s := R.slots j x hx2
      cases x with
      | fro d => obtain ⟨u, e1, q⟩ := s; exact ⟨u, by rw [List.getElem?_set_ne hne]; exact e1, q⟩
      | own d => obtain ⟨u, e1, q⟩ := s; exact ⟨u, by rw [List.getElem?_set_ne hne]; exact e1, q⟩
      | bor d => obtain ⟨u, e1, q⟩ := s; exact ⟨u, by rw [List.getElem?_set_ne hne]; exact e1, q⟩
      | tray _ =>
        show (σ.set i (some v))[j]? = _
        rw [List.getElem?_set_ne hne]; exact s
      | kd d => obtain ⟨u, e1, q⟩ := s; exact ⟨u, by rw [List.getElem?_set_ne hne]; exact e1, q⟩
  · intro sk
    rcases get_set hj with ⟨rfl, hj2⟩ | ⟨hj1, hj2⟩
    · have hw2 := Option.some.inj hj2
      rcases get_set hk with ⟨rfl, _⟩ | ⟨hk1, hk2⟩
      · exact hjk rfl
      · rcases get_set sj with ⟨_, z⟩ | ⟨z, _⟩
        · rcases get_set sk with ⟨z2, _⟩ | ⟨_, z2⟩
          · exact hk1 z2
          · cases z
            exact hw d hw2 k e hk2 z2
        · exact z rfl
    · rcases get_set hk with ⟨rfl, hk2⟩ | ⟨hk1, hk2⟩
      · have hw2 := Option.some.inj hk2
        rcases get_set sk with ⟨_, z⟩ | ⟨z, _⟩
        · rcases get_set sj with ⟨z2, _⟩ | ⟨_, z2⟩
          · exact hj1 z2
          · cases z
            exact hw e hw2 j d hj2 z2
        · exact z rfl
      · rcases get_set sj with ⟨z, _⟩ | ⟨_, z⟩
        · exact hj1 z
        · rcases get_set sk with ⟨z2, _⟩ | ⟨_, z2⟩
          · exact hk1 z2
          · exact R.sep j k a d e hjk hj2 hk2 z z2
theorem slot_at {i : Nat} {v : V} {w : Val} (R : Rep Γ F H σ ρ t) (h : ∃ z, (ρ.set i (some w))[i]? = some z) : (σ.set i (some v))[i]? = some (some v) := set_get R.len h
theorem Rep.setF {i : Nat} {v : V} {d : PyData} (R : Rep Γ F H σ ρ t) (k : Dq Γ.K F v d) : Rep Γ F H (σ.set i (some v)) (ρ.set i (some (.fro d))) t :=
  R.put (fun h => ⟨v, slot_at R h, k⟩) fun _ z => nomatch z
theorem NsOk.step {i : Nat} {v : V} {w : Val} {vs : List V} {ws : List Val} (R : Rep Γ F H σ ρ t) (n : NsOk Γ H1 F H σ ρ (v :: vs) (w :: ws)) :
    Rep Γ F H (σ.set i (some v)) (ρ.set i (some w)) t ∧ NsOk Γ H1 F H (σ.set i (some v)) (ρ.set i (some w)) vs ws := by
  have more : ∀ {vs : List V} {ws : List Val}, NsOk Γ H1 F H σ ρ vs ws → (∀ d, w = .own d → ∀ (j : Nat) (e : PyData), ws[j]? = some (.own e) → vs[j]? ≠ some v) → NsOk Γ H1 F H (σ.set i (some v)) (ρ.set i (some w)) vs ws := by
    intro vs ws h
    induction h with
    | nil => intro _; exact .nil
    | fro k t ih => intro hh; exact .fro k (ih fun d z j e q => hh d z (j + 1) e (by simpa using q))
    | bor k t ih => intro hh; exact .bor k (ih fun d z j e q => hh d z (j + 1) e (by simpa using q))
    | tray z0 t ih => intro hh; exact .tray z0 (ih fun d z j e q => hh d z (j + 1) e (by simpa using q))
    | kd z0 t ih => intro hh; exact .kd z0 (ih fun d z j e q => hh d z (j + 1) e (by simpa using q))
    | own fr t sp ih =>
      intro hh
      refine .own ⟨fr.own, fr.new, fr.old, fr.nS, fun j e q1 q2 => ?_⟩ (ih fun d z j e q => hh d z (j + 1) e (by simpa using q)) sp
      rcases get_set q1 with ⟨rfl, q3⟩ | ⟨q3, q4⟩
      · rcases get_set q2 with ⟨_, q5⟩ | ⟨q5, _⟩
        · cases q5
          exact hh e (Option.some.inj q3) 0 _ (by simp; rfl) (by simp)
        · exact q5 rfl
      · rcases get_set q2 with ⟨q5, _⟩ | ⟨_, q5⟩
        · exact q3 q5
        · exact fr.nsl j e q4 q5
  cases n with
  | fro k t => exact ⟨R.setF k, more t (fun _ z => nomatch z)⟩
  | bor k t => exact ⟨R.put (fun h => ⟨v, slot_at R h, k⟩) (fun _ z => nomatch z), more t (fun _ z => nomatch z)⟩
  | tray z0 t => subst z0; exact ⟨R.put (fun h => slot_at R h) (fun _ z => nomatch z), more t (fun _ z => nomatch z)⟩
  | own fr t sp => exact ⟨R.put (fun h => ⟨_, slot_at R h, fr.own, fr.old, fr.nS⟩) fun d _ j e q1 => fr.nsl j e q1, more t fun d _ j e q => sp j e q⟩
  | kd k t => exact ⟨R.put (fun h => ⟨_, slot_at R h, k⟩) (fun _ z => nomatch z), more t (fun _ z => nomatch z)⟩
theorem NsOk.ext {vs : List V} {ws : List Val} (R : Fin Γ F H t) (x : Ext Γ.S F H F' H') (n : NsOk Γ H1 F H σ ρ vs ws) : NsOk Γ H1 F' H' σ ρ vs ws := by
  induction n with
  | nil => exact .nil
  | fro k t ih => exact .fro (k.mono x.f) ih
  | bor k t ih =>
    refine .bor ?_ ih
    rcases k with k | ⟨a, o, e2, q, q3, q4, q5⟩
    · exact .inl (k.mono x.f)
    · obtain ⟨o', ho⟩ := q.there
      exact .inr ⟨a, o, e2, q.mono x.f (fun u hu => x.h a u q3 hu) (x.n a o' q.free ho), q3, q4, q5⟩
  | tray z0 t ih => exact .tray z0 ih
  | kd k t ih =>
    obtain ⟨q, q2, q3⟩ := k
    obtain ⟨o', ho⟩ := q.there
    exact .kd ⟨q.mono x.f (fun u hu => x.h _ u q3 hu) (x.n _ _ q.free ho), q2, q3⟩ ih
  | own fr t sp ih =>
    obtain ⟨o', ho⟩ := fr.own.there
    exact .own ⟨fr.own.mono x.f (fun u hu => x.h _ u fr.nS hu) (x.n _ o' fr.own.free ho), fr.new, fr.old, fr.nS, fr.nsl⟩ ih sp
end

/-! ### expressions that are to be stored -/
def denV (Γ : Gm) (f : Env → Γ.T → Option (Val × Γ.T)) : TE := fun σ H Q => ∃ F ρ t w t', Rep Γ F H σ ρ t ∧ f ρ t = some (w, t') ∧
  ∀ v F' H', Rep Γ F' H' σ ρ t' → Ext Γ.S F H F' H' → NsOk Γ H F' H' σ ρ [v] [w] → Q v H'
def denVs (Γ : Gm) (f : Env → Γ.T → Option (List Val × Γ.T)) : TA := fun σ H Q => ∃ F ρ t w t', Rep Γ F H σ ρ t ∧ f ρ t = some (w, t') ∧
  ∀ vs F' H', Rep Γ F' H' σ ρ t' → Ext Γ.S F H F' H' → NsOk Γ H F' H' σ ρ vs w → Q vs H'
def mRv {T : Type} (f : ME T) : Env → T → Option (Val × T) := fun ρ t => match f ρ t with
  | some (.fro d, t') => some (.fro d, t')
  | some (.tray k, t') => some (.tray k, t')
  | some (.loan j, t') => match ρ[j]? with
    | some (some (.bor d)) => some (.bor d, t')
    | _ => none
  | none => none
def mNew {T : Type} (f : Env → T → Option (PyData × T)) : Env → T → Option (Val × T) := fun ρ t => match f ρ t with
  | some (d, t') => some (.own d, t')
  | none => none
section
variable {Γ : Gm} {X : Cx} {a b c : Expr} {es : List Expr} {fa fb fc : ME Γ.T} {pos : Pos}
theorem pe_rv (h : PE X a (den Γ fa)) : PE X a (denV Γ (mRv fa)) := pe_w h fun σ H Q => by
  rintro ⟨F, ρ, t, r, t', R, e, q⟩
  unfold mRv at e
  split at e
  · rename_i d t1 e1
    cases e
    exact ⟨F, ρ, t, _, _, R, e1, fun v F1 H1 R1 x1 k1 => q v F1 H1 R1 x1 (.fro k1 .nil)⟩
  · rename_i t1 e1
    cases e
    refine ⟨F, ρ, t, _, _, R, e1, fun v F1 H1 R1 x1 k1 => ?_⟩
    cases (show v = Γ.ta _ from k1)
    exact q _ F1 H1 R1 x1 (.tray rfl .nil)
  · rename_i j t1 e1
    split at e
    · rename_i d e2
      cases e
      refine ⟨F, ρ, t, _, _, R, e1, fun v F1 H1 R1 x1 k1 => ?_⟩
      obtain ⟨u, e3, s⟩ := R1.slots j _ e2
      have k1 : σ[j]? = some (some v) := k1
      rw [k1] at e3
      cases e3
      exact q _ F1 H1 R1 x1 (.bor s .nil)
    · cases e
  · cases e
theorem pe_new {f : Env → Γ.T → Option (PyData × Γ.T)} (h : PE X a (denL Γ f)) : PE X a (denV Γ (mNew f)) := pe_w h fun σ H Q => by
  rintro ⟨F, ρ, t, r, t', R, e, q⟩
  unfold mNew at e
  split at e
  · rename_i d t1 e1
    cases e
    exact ⟨F, ρ, t, _, _, R, e1, fun p F1 H1 R1 x1 fr => q _ F1 H1 R1 x1 (.own fr .nil fun j e z => by simp at z)⟩
  · cases e
def mNilV {T : Type} : Env → T → Option (List Val × T) := fun _ t => some ([], t)
def mConsV {T : Type} (f : Env → T → Option (Val × T)) (g : Env → T → Option (List Val × T)) : Env → T → Option (List Val × T) := fun ρ t => do
  let (r, t1) ← f ρ t
  let (rs, t2) ← g ρ t1
  pure (r :: rs, t2)
theorem pa_nilV : PA X [] (denVs Γ mNilV) := pa_w pa_nil fun σ H Q => by
  rintro ⟨F, ρ, t, r, t', R, e, q⟩
  cases e
  exact q [] F H R (Ext.refl R.ex) .nil
theorem old_none {F H F1 H1 : Hp} {σ : L2.St} {ρ : Env} {t : Γ.T} {p : Addr} (x : Ext Γ.S F H F1 H1) (R1 : Rep Γ F1 H1 σ ρ t) (hp : H1 p = none) : H p = none := by
  cases z : H p with
  | none => rfl
  | some o =>
    by_cases hS : p ∈ Γ.S
    · obtain ⟨o2, q2⟩ := Γ.has _ H1 p hS R1.inn
      rw [hp] at q2; cases q2
    · have := x.h p o hS z
      rw [hp] at this; cases this
theorem NsOk.back {F H F1 H1 F2 H2 : Hp} {σ : L2.St} {ρ : Env} {t : Γ.T} (x : Ext Γ.S F H F1 H1) (R1 : Rep Γ F1 H1 σ ρ t) {vs : List V} {ws : List Val} (n : NsOk Γ H1 F2 H2 σ ρ vs ws) :
    NsOk Γ H F2 H2 σ ρ vs ws ∧ ∀ (j : Nat) (e : PyData) (p : Addr), ws[j]? = some (.own e) → vs[j]? = some (.ref p) → H1 p = none := by
  induction n with
  | nil => exact ⟨.nil, fun j e p z => by simp at z⟩
  | fro k t ih =>
    refine ⟨.fro k ih.1, fun j e p z1 z2 => ?_⟩
    cases j with
    | zero => simp at z1
    | succ j => exact ih.2 j e p (by simpa using z1) (by simpa using z2)
  | bor k t ih =>
    refine ⟨.bor k ih.1, fun j e p z1 z2 => ?_⟩
    cases j with
    | zero => simp at z1
    | succ j => exact ih.2 j e p (by simpa using z1) (by simpa using z2)
  | tray z0 t ih =>
    refine ⟨.tray z0 ih.1, fun j e p z1 z2 => ?_⟩
    cases j with
    | zero => simp at z1
    | succ j => exact ih.2 j e p (by simpa using z1) (by simpa using z2)
  | kd z0 t ih =>
    refine ⟨.kd z0 ih.1, fun j e p z1 z2 => ?_⟩
    cases j with
    | zero => simp at z1
    | succ j => exact ih.2 j e p (by simpa using z1) (by simpa using z2)
  | own fr t sp ih =>
    refine ⟨.own ⟨fr.own, old_none x R1 fr.new, fr.old, fr.nS, fr.nsl⟩ ih.1 sp, fun j e p z1 z2 => ?_⟩
    cases j with
    | zero =>
      have e0 := Option.some.inj (show some (V.ref _) = some (V.ref p) from z2)
      cases e0
      exact fr.new
    | succ j => exact ih.2 j e p (by simpa using z1) (by simpa using z2)
variable {f : Env → Γ.T → Option (Val × Γ.T)} {ga : Env → Γ.T → Option (List Val × Γ.T)}
theorem pa_consV (ha : PE X a (denV Γ f)) (hr : PA X es (denVs Γ ga)) (hs : starEach (a :: es) X.env = (false, eval a X.env) :: starEach es X.env := by rfl) : PA X (a :: es) (denVs Γ (mConsV f ga)) := pa_w (pa_cons ha hr hs) fun σ H Q => by
  rintro ⟨F, ρ, t, r, t', R, e, q⟩
  obtain ⟨⟨r1, t1⟩, e1, e⟩ := bind_some e
  obtain ⟨⟨rs, t2⟩, e2, e⟩ := bind_some e
  cases e
  refine ⟨F, ρ, t, _, _, R, e1, fun v F1 H1 R1 x1 k1 => ⟨F1, ρ, _, _, _, R1, e2, fun vs F2 H2 R2 x2 k2 => q _ F2 H2 R2 (x1.then x2 R2) ?_⟩⟩
  have k1' := k1.ext R1.toFin x2
  obtain ⟨b1, b2⟩ := k2.back x1 R1
  cases k1' with
  | fro k _ => exact .fro k b1
  | bor k _ => exact .bor k b1
  | tray z0 _ => exact .tray z0 b1
  | kd k _ => exact .kd k b1
  | own fr _ _ =>
    refine .own fr b1 fun j e z1 z2 => ?_
    have hn := b2 j e _ z1 z2
    cases k1 with
    | own fr1 _ _ =>
      obtain ⟨o, ho⟩ := fr1.own.there
      rw [hn] at ho; cases ho

/-! ### statements -/
inductive Fl where
  | nx (ρ : Env) | rt (d : PyData) | bk (ρ : Env) | ct (ρ : Env)
abbrev MS (T : Type) := Env → T → Option (Fl × T)
def post (Γ : Gm) (F : Hp) (D : Ends) (t' : Γ.T) : Fl → Prop
  | .nx ρ' => ∀ σ' F' H', Rep Γ F' H' σ' ρ' t' → Same F F' → D.nx σ' H'
  | .rt d => ∀ v F' H', Fin Γ F' H' t' → Dq Γ.K F' v d → D.rt v H'
  | .bk ρ' => ∀ σ' F' H', Rep Γ F' H' σ' ρ' t' → Same F F' → D.bk σ' H'
  | .ct ρ' => ∀ σ' F' H', Rep Γ F' H' σ' ρ' t' → Same F F' → D.ct σ' H'
theorem post_more {Γ : Gm} {F F1 : Hp} {D : Ends} {t' : Γ.T} {r : Fl} (e : Same F F1) (h : post Γ F D t' r) : post Γ F1 D t' r := by
  cases r with
  | nx ρ => exact fun σ' F' H' R s => h σ' F' H' R (e.trans s)
  | rt d => exact h
  | bk ρ => exact fun σ' F' H' R s => h σ' F' H' R (e.trans s)
  | ct ρ => exact fun σ' F' H' R s => h σ' F' H' R (e.trans s)
def denS (Γ : Gm) (f : MS Γ.T) : TS := fun D σ H => ∃ F ρ t r t', Rep Γ F H σ ρ t ∧ f ρ t = some (r, t') ∧ post Γ F D t' r
theorem ps_w {s : Stmt} {t t' : TS} (h : PS X s t) (w : ∀ D σ H, t' D σ H → t D σ H) : PS X s t' := ⟨fun pins s σ H D I q => h.run pins s σ H D I (w D σ H q)⟩
theorem pss_w {s : List Stmt} {t t' : TS} (h : PSs X s t) (w : ∀ D σ H, t' D σ H → t D σ H) : PSs X s t' := ⟨fun pins s σ H D I q => h.run pins s σ H D I (w D σ H q)⟩
def mSkip {T : Type} : MS T := fun ρ t => some (.nx ρ, t)
def mSeq {T : Type} (f g : MS T) : MS T := fun ρ t => match f ρ t with
  | some (.nx ρ1, t1) => g ρ1 t1
  | r => r
variable {st : Stmt} {rest : List Stmt} {sa sb : MS Γ.T}
theorem pss_nilD : PSs X [] (denS Γ mSkip) := pss_w pss_nil fun D σ H => by
  rintro ⟨F, ρ, t, r, t', R, e, q⟩
  cases e
  exact q σ F H R (Same.refl F)
theorem pss_consD (h1 : PS X st (denS Γ sa)) (h2 : PSs X rest (denS Γ sb)) : PSs X (st :: rest) (denS Γ (mSeq sa sb)) := pss_w (pss_cons h1 h2) fun D σ H => by
  rintro ⟨F, ρ, t, r, t', R, e, q⟩
  unfold mSeq at e
  split at e
  · rename_i ρ1 t1 e1
    exact ⟨F, ρ, t, _, _, R, e1, fun σ' F' H' R' s => ⟨F', ρ1, t1, r, t', R', e, post_more s q⟩⟩
  · rename_i hne
    refine ⟨F, ρ, t, r, t', R, e, ?_⟩
    cases r with
    | nx ρ1 => exact (hne _ _ e).elim
    | rt d => exact q
    | bk ρ1 => exact q
    | ct ρ1 => exact q
theorem pss_oneD (h1 : PS X st (denS Γ sa)) : PSs X [st] (denS Γ sa) := pss_w (pss_one h1) fun D σ H q => q
def mBreak {T : Type} : MS T := fun ρ t => some (.bk ρ, t)
def mCont {T : Type} : MS T := fun ρ t => some (.ct ρ, t)
def mIfS {T : Type} (c : Env → T → Option (Bool × T)) (f g : MS T) : MS T := fun ρ t => do
  let (b, t1) ← c ρ t
  if b then f ρ t1 else g ρ t1
theorem ps_ifD {ta : Env → Γ.T → Option (Bool × Γ.T)} {sa' sb' : List Stmt} (hc : PT X c (denT Γ ta)) (ha : PSs X sa' (denS Γ sa)) (hb : PSs X sb' (denS Γ sb)) : PS X (.If c sa' sb' pos) (denS Γ (mIfS ta sa sb)) := ps_w (ps_if hc ha hb) fun D σ H => by
  rintro ⟨F, ρ, t, r, t', R, e, q⟩
  obtain ⟨⟨b1, t1⟩, e1, e⟩ := bind_some e
  refine ⟨F, ρ, t, b1, t1, R, e1, fun F1 H1 R1 x1 => ?_⟩
  cases b1 with
  | true => exact iteT ⟨F1, ρ, t1, r, t', R1, e, post_more x1.f q⟩
  | false => exact iteF ⟨F1, ρ, t1, r, t', R1, e, post_more x1.f q⟩
def mDrop {T : Type} (f : ME T) : MS T := fun ρ t => match f ρ t with
  | some (_, t') => some (.nx ρ, t')
  | none => none
/-- return e; one's own list or dict is given away -/
def mRet {T : Type} (f : ME T) : MS T := fun ρ t => match f ρ t with
  | some (.fro d, t') => some (.rt d, t')
  | some (.loan j, t') => match ρ[j]? with
    | some (some (.own d)) => some (.rt d, t')
    | _ => none
  | _ => none
theorem Fin.froze {F H : Hp} {t : Γ.T} {p : Addr} {o : HO} (R : Fin Γ F H t) (hF : F p = none) (hH : H p = some o) (nS : p ∉ Γ.S) (old : Γ.H0 p = none) : Fin Γ (upd F p o) H t := by
  have sm : Same F (upd F p o) := fun b u q => by rw [upd_ne (ne_of_none q hF)]; exact q
  refine { ex := fun b u q => ?_, inn := R.inn, sF := fun b hb => ?_, step0 := R.step0.trans sm, step := fun b u n1 n2 n3 => ?_ }
  · by_cases hb : b = p
    · subst hb; rw [upd_same] at q; rw [hH]; exact q
    · rw [upd_ne hb] at q; exact R.ex b u q
  · rw [upd_ne (fun z : b = p => nS (z ▸ hb))]; exact R.sF b hb
  · have hba : b ≠ p := fun z => by subst z; rw [old] at n3; cases n3
    rw [upd_ne hba]; exact R.step b u n1 n2 n3
theorem ps_retD (h : PE X a (den Γ fa)) : PS X (.Return (some a) pos) (denS Γ (mRet fa)) := ps_w (ps_ret h) fun D σ H => by
  rintro ⟨F, ρ, t, r, t', R, e, q⟩
  unfold mRet at e
  split at e
  · rename_i d t1 e1
    cases e
    exact ⟨F, ρ, t, _, _, R, e1, fun v F1 H1 R1 x1 k1 => q v F1 H1 R1.toFin k1⟩
  · rename_i j t1 e1
    split at e
    · rename_i d e2
      cases e
      refine ⟨F, ρ, t, _, _, R, e1, fun v F1 H1 R1 x1 k1 => ?_⟩
      obtain ⟨p, e3, o, old, nS⟩ := R1.slots j _ e2
      have k1 : σ[j]? = some (some v) := k1
      rw [k1] at e3
      cases e3
      obtain ⟨u, hu, dq⟩ := o.froze
      exact q _ _ _ (R1.toFin.froze o.free hu nS old) dq
    · cases e
  · cases e
def mRetN {T : Type} : MS T := fun _ t => some (.rt .none, t)
/-- what is never come to -/
def mStop {T : Type} : MS T := fun _ _ => none
theorem ps_stopD : PS X st (denS Γ mStop) := ps_w ps_never fun D σ H => by
  rintro ⟨F, ρ, t, r, t', R, e, q⟩
  cases e

/-! ### targets of data -/
theorem wipe_under {i : Nat} {x : Option V} : ∀ (vs : List Nat) (σ : L2.St), (wipe (σ.set i x) vs).set i none = (wipe σ vs).set i none
  | [], σ => by unfold wipe; rw [List.set_set]
  | v :: vs, σ => by
    unfold wipe
    by_cases e : v = i
    · subst e
      rw [List.set_set, List.set_set, wipe_under vs σ]
    · rw [List.set_comm _ _ e, List.set_comm _ _ e, wipe_under vs σ]
theorem wipe_put {i : Nat} {x : Option V} : ∀ {vs : List Nat} {σ : L2.St}, i ∈ vs → wipe (σ.set i x) vs = wipe σ vs
  | v :: vs, σ, h => by
    unfold wipe
    rcases List.mem_cons.mp h with e | e
    · subst e
      exact wipe_under vs σ
    · rw [wipe_put e]
def denG (Γ : Gm) (ks : List Nat) (g : PyData → Env → Option Env) : TG := fun v σ H Q => ∃ F ρ t d ρ', Rep Γ F H σ ρ t ∧ Dq Γ.K F v d ∧ g d ρ = some ρ' ∧ ∀ σ', Rep Γ F H σ' ρ' t → wipe σ' ks = wipe σ ks → Q σ' H
def denGs (Γ : Gm) (ks : List Nat) (g : List PyData → Env → Option Env) : TGs := fun vs σ H Q => ∃ F ρ t ds ρ', Rep Γ F H σ ρ t ∧ DqA Γ.K F vs ds ∧ g ds ρ = some ρ' ∧ ∀ σ', Rep Γ F H σ' ρ' t → wipe σ' ks = wipe σ ks → Q σ' H
theorem pg_w {e : Expr} {t t' : TG} (h : PG X e t) (w : ∀ v σ H Q, t' v σ H Q → t v σ H Q) : PG X e t' := ⟨fun pins s σ H v u Q I r q => h.run pins s σ H v u Q I r (w v σ H Q q)⟩
theorem pgs_w {e : List Expr} {t t' : TGs} (h : PGs X e t) (w : ∀ v σ H Q, t' v σ H Q → t v σ H Q) : PGs X e t' := ⟨fun pins s σ H v u Q I r q => h.run pins s σ H v u Q I r (w v σ H Q q)⟩
def gN (i : Nat) : PyData → Env → Option Env := fun d ρ => some (ρ.set i (some (.fro d)))
def gT (g : List PyData → Env → Option Env) (n : Nat) : PyData → Env → Option Env := fun d ρ => match d with
  | .tuple ds => if ds.length = n then g ds ρ else none
  | _ => none
def gs0 : List PyData → Env → Option Env := fun ds ρ => match ds with
  | [] => some ρ
  | _ => none
def gs1 (g : PyData → Env → Option Env) (h : List PyData → Env → Option Env) : List PyData → Env → Option Env := fun ds ρ => match ds with
  | d :: r => (g d ρ).bind (h r)
  | [] => none
variable {ks : List Nat}
theorem pg_nm {i : Nat} (hm : i ∈ ks) (h : PG X a (gName i)) : PG X a (denG Γ ks (gN i)) := pg_w h fun v σ H Q => by
  rintro ⟨F, ρ, t, d, ρ', R, k, e, q⟩
  cases e
  exact q _ (R.setF k) (wipe_put hm)
theorem pgs_0 : PGs X [] (denGs Γ ks gs0) := pgs_w pgs_nil fun v σ H Q => by
  rintro ⟨F, ρ, t, d, ρ', R, k, e, q⟩
  unfold gs0 at e
  split at e
  · cases e
    cases k
    exact ⟨rfl, q _ R rfl⟩
  · cases e
theorem pgs_1 {g : PyData → Env → Option Env} {h : List PyData → Env → Option Env} (h1 : PG X a (denG Γ ks g)) (h2 : PGs X es (denGs Γ ks h)) (hs : (assignEach (a :: es) X.env).map (·.2) = assign a X.env :: (assignEach es X.env).map (·.2) := by rfl) : PGs X (a :: es) (denGs Γ ks (gs1 g h)) := pgs_w (pgs_cons h1 h2 hs) fun v σ H Q => by
  rintro ⟨F, ρ, t, ds, ρ', R, k, e, q⟩
  unfold gs1 at e
  split at e
  · cases k with
    | cons k1 k2 =>
      obtain ⟨ρ1, e1, e⟩ := bind_some e
      exact ⟨_, _, rfl, F, ρ, t, _, ρ1, R, k1, e1, fun σ1 R1 w1 => ⟨F, ρ1, t, _, ρ', R1, k2, e, fun σ2 R2 w2 => q σ2 R2 (w2.trans w1)⟩⟩
  · cases e
theorem pg_tp {g : List PyData → Env → Option Env} {k n : Nat} (hc : X.calm = true) (hK : X.K = Γ.K) (h : PGs X es (denGs Γ ks g)) (hn : (assignEach es X.env).length = n := by rfl) (hst : (assignEach es X.env).findIdx? (·.1) = none := by rfl) : PG X (.Tuple es k pos) (denG Γ ks (gT g n)) := pg_w (pg_tup hc h hn hst) fun v σ H Q => by
  rintro ⟨F, ρ, t, d, ρ', R, k, e, q⟩
  unfold gT at e
  split at e
  · split at e
    · rename_i hl
      cases k with
      | tup h1 k1 =>
        refine ⟨_, _, rfl, ?_, by rw [k1.length]; exact hl, F, ρ, t, _, ρ', R, k1, e, q⟩
        rw [hK]
        exact same_t R.ex h1
    · cases e
  · cases e
/-- target = e -/
def mAsg {T : Type} (f : ME T) (g : PyData → Env → Option Env) : MS T := fun ρ t => match f ρ t with
  | some (.fro d, t') => match g d ρ with
    | some ρ' => some (.nx ρ', t')
    | none => none
  | _ => none
theorem w_asg {g : PyData → Env → Option Env} (D : Ends) (σ : L2.St) (H : Hp) : denS Γ (mAsg fa g) D σ H → tAsg (den Γ fa) (denG Γ ks g) D σ H := by
  rintro ⟨F, ρ, t, r, t', R, e, q⟩
  unfold mAsg at e
  split at e
  · rename_i d t1 e1
    split at e
    · rename_i ρ' e2
      cases e
      exact ⟨F, ρ, t, _, _, R, e1, fun v F1 H1 R1 x1 k1 => ⟨F1, ρ, _, d, ρ', R1, k1, e2, fun σ' R' _ => q σ' F1 H1 R' x1.f⟩⟩
    · cases e
  · cases e
theorem ps_asgD {tg : Expr} {g : PyData → Env → Option Env} (h : PE X a (den Γ fa)) (hg : PG X tg (denG Γ ks g)) (hs : swapsWithSole [tg] a pos.line X.env = pure false := by rfl) (hw : swappedStores [tg] a X.env = pure none := by rfl) (h1 : (assignEach [tg] X.env).map (·.2) = [assign tg X.env] := by rfl) : PS X (.Assign [tg] a pos) (denS Γ (mAsg fa g)) := ps_w (ps_asg h hg hs hw h1) w_asg
/-- x = e, whatever it is -/
def mSet {T : Type} (i : Nat) (f : Env → T → Option (Val × T)) : MS T := fun ρ t => match f ρ t with
  | some (w, t') => some (.nx (ρ.set i (some w)), t')
  | none => none
theorem w_set {i : Nat} (D : Ends) (σ : L2.St) (H : Hp) : denS Γ (mSet i f) D σ H → tAsg (denV Γ f) (gName i) D σ H := by
  rintro ⟨F, ρ, t, r, t', R, e, q⟩
  unfold mSet at e
  split at e
  · rename_i w t1 e1
    cases e
    exact ⟨F, ρ, t, _, _, R, e1, fun v F1 H1 R1 x1 k1 => q _ F1 H1 (k1.step R1).1 x1.f⟩
  · cases e
theorem ps_setD {i : Nat} {x : Str} {p2 : Pos} (hN : X.N.Nodup) (hi : X.N[i]? = some x) (hx : Loc X.env.scope x) (he : PE X a (denV Γ f)) (hs : swapsWith a (some (.Name x p2)) pos.line X.env = pure false := by rfl)
    (hf : X.fn x = true ∨ X.env.scope.names.lookup x = some .local := by first | exact .inl rfl | exact .inr rfl | assumption) : PS X (.Assign [.Name x p2] a pos) (denS Γ (mSet i f)) := ps_w (ps_set hN hi hx he hs hf) w_set
/-- x, y = e1, e2 -/
def mPar {T : Type} (i j : Nat) (f : Env → T → Option (List Val × T)) : MS T := fun ρ t => match f ρ t with
  | some ([w1, w2], t') => some (.nx ((ρ.set i (some w1)).set j (some w2)), t')
  | _ => none
theorem w_par {i j : Nat} (D : Ends) (σ : L2.St) (H : Hp) : denS Γ (mPar i j ga) D σ H → tPar i j (denVs Γ ga) D σ H := by
  rintro ⟨F, ρ, t, r, t', R, e, q⟩
  unfold mPar at e
  split at e
  · rename_i w1 w2 t1 e1
    cases e
    refine ⟨F, ρ, t, _, _, R, e1, fun vs F1 H1 R1 x1 k1 => ?_⟩
    obtain ⟨v1, vs, rfl⟩ : ∃ v1 r, vs = v1 :: r := by cases k1 <;> exact ⟨_, _, rfl⟩
    have s1 := k1.step (i := i) R1
    obtain ⟨v2, vs, rfl⟩ : ∃ v1 r, vs = v1 :: r := by cases s1.2 <;> exact ⟨_, _, rfl⟩
    have s2 := s1.2.step (i := j) s1.1
    obtain rfl : vs = [] := by cases s2.2; rfl
    exact ⟨v1, v2, rfl, q _ F1 H1 s2.1 x1.f⟩
  · cases e
theorem ps_parD {i j : Nat} {x y : Str} {px py pt : Pos} {kt k2 pt2} (hc : X.calm = true) (hN : X.N.Nodup) (hi : X.N[i]? = some x) (hj : X.N[j]? = some y) (hij : i ≠ j)
    (hx : X.env.scope.names.lookup x = some .local) (hy : X.env.scope.names.lookup y = some .local) (ha : PA X [a, b] (denVs Γ ga))
    (hw : swappedStores [.Tuple [.Name x px, .Name y py] kt pt] (.Tuple [a, b] k2 pt2) X.env = pure (some [x, y]))
    (hs : swapsWithSole [.Tuple [.Name x px, .Name y py] kt pt] (.Tuple [a, b] k2 pt2) pos.line X.env = pure false := by rfl) :
    PS X (.Assign [.Tuple [.Name x px, .Name y py] kt pt] (.Tuple [a, b] k2 pt2) pos) (denS Γ (mPar i j ga)) := ps_w (ps_par hc hN hi hj hij hx hy ha hw hs) w_par
/-- targets (names) = a tuple display -/
def setAll (ρ : Env) : List Nat → List Val → Option Env
  | [], [] => some ρ
  | i :: is, w :: ws => setAll (ρ.set i (some w)) is ws
  | _, _ => none
inductive Nms (X : Cx) : List Expr → List Nat → TGs → Prop
  | nil : Nms X [] [] gNil
  | cons {e : Expr} {es : List Expr} {i : Nat} {is : List Nat} {u : TGs} : PG X e (gName i) → Nms X es is u → (assignEach (e :: es) X.env).map (·.2) = assign e X.env :: (assignEach es X.env).map (·.2) → Nms X (e :: es) (i :: is) (gCons (gName i) u)
theorem Nms.pgs {is : List Nat} {u : TGs} (h : Nms X es is u) : PGs X es u := by
  induction h with
  | nil => exact pgs_nil
  | cons h1 _ hs ih => exact pgs_cons h1 ih hs
theorem Nms.sets {is : List Nat} {u : TGs} (h : Nms X es is u) : ∀ {F H H1 : Hp} {σ : L2.St} {ρ ρ' : Env} {t : Γ.T} {vs : List V} {ws : List Val} {Q : L2.St → Hp → Prop}, Rep Γ F H σ ρ t → NsOk Γ H1 F H σ ρ vs ws → setAll ρ is ws = some ρ' → (∀ σ', Rep Γ F H σ' ρ' t → Q σ' H) → u vs σ H Q := by
  induction h with
  | nil =>
    intro F H H1 σ ρ ρ' t vs ws Q R n e q
    cases ws with
    | nil => cases e; cases n; exact ⟨rfl, q _ R⟩
    | cons _ _ => cases e
  | cons h1 _ hs ih =>
    intro F H H1 σ ρ ρ' t vs ws Q R n e q
    cases ws with
    | nil => cases e
    | cons w ws =>
      obtain ⟨v, vs, rfl⟩ : ∃ v1 r, vs = v1 :: r := by cases n <;> exact ⟨_, _, rfl⟩
      obtain ⟨s1, s2⟩ := n.step R
      exact ⟨v, vs, rfl, ih s1 s2 e q⟩
theorem NsOk.length {F H H1 : Hp} {σ : L2.St} {ρ : Env} {vs : List V} {ws : List Val} (n : NsOk Γ H1 F H σ ρ vs ws) : vs.length = ws.length := by
  induction n with
  | nil => rfl
  | fro _ _ ih => simp [ih]
  | bor _ _ ih => simp [ih]
  | tray _ _ ih => simp [ih]
  | kd _ _ ih => simp [ih]
  | own _ _ _ ih => simp [ih]
def mPars {T : Type} (is : List Nat) (f : Env → T → Option (List Val × T)) : MS T := fun ρ t => match f ρ t with
  | some (ws, t') => if ws.length ≤ sizeLine ∧ ws.length = is.length then match setAll ρ is ws with
    | some ρ' => some (.nx ρ', t')
    | none => none else none
  | none => none
theorem ps_parsD {is : List Nat} {u : TGs} {ts : List Expr} {k k2 : _} {p1 p2 : Pos} (hc : X.calm = true) (ha : PA X es (denVs Γ ga)) (hn : Nms X ts is u) (hl : (assignEach ts X.env).length = is.length) (hst : (assignEach ts X.env).findIdx? (·.1) = none)
    (hs : swapsWithSole [.Tuple ts k p1] (.Tuple es k2 p2) pos.line X.env = pure false := by rfl) (hw : swappedStores [.Tuple ts k p1] (.Tuple es k2 p2) X.env = pure none := by rfl) (h1 : (assignEach [.Tuple ts k p1] X.env).map (·.2) = [assign (.Tuple ts k p1) X.env] := by rfl) :
    PS X (.Assign [.Tuple ts k p1] (.Tuple es k2 p2) pos) (denS Γ (mPars is ga)) := ps_w (ps_asg (pe_tup ha) (pg_tup hc hn.pgs hl hst) hs hw h1) fun D σ H => by
  rintro ⟨F, ρ, t, r, t', R, e, q⟩
  unfold mPars at e
  split at e
  · rename_i ws t1 e1
    split at e
    · rename_i hz
      split at e
      · rename_i ρ' e2
        cases e
        refine ⟨F, ρ, t, _, _, R, e1, fun vs F1 H1 R1 x1 k1 => ⟨by rw [k1.length]; exact hz.1, fun p hp => ?_⟩⟩
        have x2 : Ext [] F1 H1 F1 (upd H1 p (.tup vs)) := Ext.new R1.ex hp
        refine ⟨p, vs, rfl, .of upd_same, by rw [k1.length]; exact hz.2, hn.sets (R1.ext0 x2) (k1.ext R1.toFin x2.wide) e2 fun σ' R' => q _ _ _ R' (x1.f.trans x2.f)⟩
      · cases e
    · cases e
  · cases e
end
end Mi
/-! Defs whose promise may lean on this: no repr is under way where they are called. -/
namespace Mi
open PySem L2

/-- a promise that is kept where no repr is under way -/
structure FnG (P : Program) (w : World) (K : PySem.W.Frag) (mg : Str → Option Value) (base : Heap) (CX : CXT) (k : Nat) (f : Addr) (fd : FuncData) (ps : List Str) (sp : Sp) : Prop where
  len : ∀ vs H Q E, sp vs H Q E → vs.length = ps.length
  run : ∀ (A : Around) (outer : List PySem.Env) (s : Shared) (H : Hp) (args : Args) (us : List Value) (vs : List V) (Q : VK) (E : XK), A.guards = some [] → Room k A → Env0 P w K mg base A outer s H → BindsTo s fd args (ps.zip us) → Vals vs us →
    sp vs H Q E → codeAny (model P w) A (.call (.ref f) args) (CR CX outer P w H s Q E) s
section
variable {P : Program} {w : World} {K : PySem.W.Frag} {mg : Str → Option Value} {base : Heap} {CX : CXT} {k : Nat} {f : Addr} {fd : FuncData} {ps : List Str} {sp : Sp}
theorem FnG.mono {j : Nat} (G : FnG P w K mg base CX j f fd ps sp) (h : j ≤ k) : FnG P w K mg base CX k f fd ps sp :=
  ⟨G.len, fun A outer s H args us vs Q E hg hr => G.run A outer s H args us vs Q E hg (hr.mono h)⟩
/-- a def by its body -/
theorem Fn.okG {x qual : Str} {st : Stmt} {N : List Str} (F : Fun K x qual st f fd) (S : FnScope N ps (defScope st)) (len : ∀ vs H Q E, sp vs H Q E → vs.length = ps.length)
    (body : ∀ (cdv : Value) (A : Around) (outer : List PySem.Env) (s : Shared) (H : Hp) (vs : List V) (Q : VK) (E : XK), A.guards = some [] → Room k (A.deeper (PyProof.Rows.envOfC qual (defScope st) s.heap.objs.size f cdv)) → sp vs H Q E →
      ∃ t, PSs (cxOf CX P w K mg base N qual (defScope st) f cdv A outer s H E) (defBody st) t ∧ t { nx := fun _ H' => Q .non H', rt := Q } (L2.start N vs) H) : FnG P w K mg base CX (k + 1) f fd ps sp := by
  obtain ⟨oc, od, kV, doc, pm, an, cdv, ct, osl, rfl, lk, hcd⟩ := F.ex
  refine ⟨len, fun A outer s H args us vs Q E hg hr he hb hv hsp => ?_⟩
  have hl := len _ _ _ _ hsp
  have stay : ∀ b o, base.get? b = some o → s.heap.get? b = some o := fun b o e => (he.bs b o e).1
  have KX : K.In s.heap := he.mod.kin.keeps stay
  have kinds : ∀ y ∈ ps.zip us, (defScope st).names.lookup y.1 = some .local ∨ ((defScope st).names.lookup y.1 = some .cell ∧ ((cellsFrom (s.heap.objs.size + 1) (defScope st).names []).lookup y.1).isSome = true) := by
    intro y hy
    have hy1 : y.1 ∈ ps := (List.of_mem_zip (show (y.1, y.2) ∈ ps.zip us from hy)).1
    rcases S.par y.1 hy1 with q | q
    · exact .inl q
    · exact .inr ⟨q, PySem.W.cellsFrom_some _ _ _ (.inl q)⟩
  refine PySem.codeAny_call_function hr.depth (KX _ _ lk) rfl S.co S.gen rfl (PySem.W.codeRec_of KX hcd) (hb _ _ _ _ ?_)
  refine wpAny_newFunctionEnv_cells S.kind kinds fun env e1 s1 x => ?_
  subst e1
  refine ⟨(he.mod.nolimit.keeps stay).keeps x.toInCall.keep, PySem.codeAny_func ?_⟩
  obtain ⟨t, ht, hq⟩ := body cdv A outer s H vs Q E hg (hr.deeper _) hsp
  have I := inv_start (CX := CX) (E := E) (qual := qual) (f := f) (cd := cdv) S hr.hd he hl hv x
  refine wpAny_mono (ht.run [] s1 (L2.start N vs) H _ I hq) (fun fl s' hs => ?_) fun e s' hs => hs
  cases fl with
  | next => obtain ⟨σ', H', J, q⟩ := hs; exact ⟨V.non, H', J.os, J.bare, J.base, J.hok, rfl, q⟩
  | ret u => obtain ⟨v, σ', H', J, rv, q⟩ := hs; exact ⟨v, H', J.os, J.bare, J.base, J.hok, rv, q⟩
  | brk => obtain ⟨_, _, _, q⟩ := hs; exact q.elim
  | cont => obtain ⟨_, _, _, q⟩ := hs; exact q.elim
end
section
variable {X : Cx} {CX : CXT} {k : Nat} {f : Addr} {fd : FuncData} {ps ks : List Str} {sp : Sp} {E : XK} {x : Str} {p pos : Pos} {e : Expr} {es : List Expr} {t tk : TA} {kws : List Keyword} {g : List Value → List Value → List Value} {gV : List V → List V → List V}
/-- behind the callee -/
theorem after_fn {pins : List (Addr × Obj)} {σ : L2.St} {H : Hp} {s : Shared} {Q : VK} {args : Args} (hx : Passes CX X E) (I : L2.Inv X pins σ H s)
    (h : codeAny (model X.prog X.w) X.A (.call (.ref f) args) (CR CX X.stack X.prog X.w H s Q E) s) : codeAny (model X.prog X.w) X.A (.call (.ref f) args) (fun r s' => match r with
      | .ok (.ret u) => EP X pins σ Q u s'
      | .ok _ => False
      | .error er => X.xe er s') s := codeAny_mono h fun r s' hq => by
  cases r with
  | error er => exact hx pins σ H s er s' I hq
  | ok fl =>
    cases fl with
    | ret u => exact I.after hq
    | next => exact hq.elim
    | brk => exact hq.elim
    | cont => exact hq.elim
theorem goG {pins : List (Addr × Obj)} {σ : L2.St} {H : Hp} {s : Shared} {Q : VK} {us : List Value} {vs : List V} (G : FnG X.prog X.w X.K X.mg X.base CX k f fd ps sp) (hg : X.A.guards = some []) (hr : Room k X.A) (hb : Binds X.K fd ps []) (hx : Passes CX X E)
    (I : L2.Inv X pins σ H s) (r : Vals vs us) (h : sp vs H Q E) : wpAny (model X.prog X.w) X.A (call (.ref f) us) (EP X pins σ Q) X.xe s := by
  have hl : us.length = ps.length := by rw [← r.length]; exact G.len _ _ _ _ h
  have hb2 := hb s us I.kIn (by simpa using hl)
  rw [List.append_nil] at hb2
  refine wpAny_call (codeAny_mono (after_fn (Q := Q) hx I (G.run X.A X.stack s H ⟨us, []⟩ us vs Q E hg hr I.env0 hb2 r h)) fun r s' hq => ?_)
  cases r with
  | error er => exact hq
  | ok fl => cases fl <;> first | exact hq | exact hq.elim
/-- f(e, ..) -/
theorem pe_callG (G : FnG X.prog X.w X.K X.mg X.base CX k f fd ps sp) (hg : X.A.guards = some []) (hr : Room k X.A) (hgl : Gl X x) (hm : X.mg x = some (.ref f)) (hk : PySem.W.keepIn X.K (.ref f) = true) (hb : Binds X.K fd ps []) (hx : Passes CX X E)
    (ha : PA X (e :: es) t) (hdb : (x == ("__debug__" : Str)) = false := by decide) (he : starEach (e :: es) X.env = (false, eval e X.env) :: starEach es X.env := by rfl) (hpl : (backTo pos (starEach es X.env)).any (·.1) = false := by rfl) :
    PE X (.Call (.Name x p) (e :: es) [] pos) (fun σ H Q => t σ H fun vs H1 => sp vs H1 Q E) := by
  refine ⟨fun pins s σ H Q I h => wpAny_Call_Name_kw (ld_glob I hgl hm ?_ hdb)⟩
  refine PySem.W.callWith_K (h₀ := X.base) I.ok.mod.kin hk (thn (ha.run pos pins s σ H _ I h) fun us s1 hq => ?_) he hpl
  obtain ⟨vs, H1, I1, r, q⟩ := hq
  exact ⟨I1.kIn, goG G hg hr hb hx I1 r q⟩
end

/-! ### a def whose mirror is known -/
/-- arguments: lent (true) or kept (false) -/
inductive ArgOk (K : PySem.W.Frag) (S : List Addr) (F H : Hp) : List Bool → List V → List PyData → Prop
  | nil : ArgOk K S F H [] [] []
  | kept {b : Bool} {bs : List Bool} {v : V} {vs : List V} {d : PyData} {ds : List PyData} : Dq K F v d → ArgOk K S F H bs vs ds → ArgOk K S F H (b :: bs) (v :: vs) (d :: ds)
  | lent {bs : List Bool} {a : Addr} {vs : List V} {d : PyData} {ds : List PyData} : Own K F H a d → a ∉ S → ArgOk K S F H bs vs ds → ArgOk K S F H (true :: bs) (.ref a :: vs) (d :: ds)
theorem ArgOk.len {K : PySem.W.Frag} {S : List Addr} {F H : Hp} {bs : List Bool} {vs : List V} {ds : List PyData} (h : ArgOk K S F H bs vs ds) : vs.length = bs.length ∧ ds.length = bs.length := by
  induction h with
  | nil => exact ⟨rfl, rfl⟩
  | kept _ _ ih => exact ⟨congrArg Nat.succ ih.1, congrArg Nat.succ ih.2⟩
  | lent _ _ _ ih => exact ⟨congrArg Nat.succ ih.1, congrArg Nat.succ ih.2⟩
def spP (K : PySem.W.Frag) (md : List Bool) (m : List PyData → Option PyData) : Sp := fun vs H Q _ => ∃ F ds d, Same F H ∧ ArgOk K [] F H md vs ds ∧ m ds = some d ∧ ∀ v F' H', Ext [] F H F' H' → Dq K F' v d → Q v H'
/-- the state of a def that has no tray -/
def Gp (w : World) (K : PySem.W.Frag) (F H : Hp) : Gm := { K := K, w := w, S := [], T := Unit, In := fun _ _ => True, loc := fun _ _ _ _ h => h, has := fun _ _ _ h _ => absurd h (by simp), F0 := F, H0 := H, ta := fun _ => .non }
def slotsOf : List Bool → List PyData → Env
  | b :: bs, d :: ds => some (if b then .bor d else .fro d) :: slotsOf bs ds
  | _, _ => []
def entry (n : Nat) (bs : List Bool) (ds : List PyData) : Env := slotsOf bs ds ++ List.replicate (n - ds.length) none
def mFun (n : Nat) (bs : List Bool) (body : MS Unit) : List PyData → Option PyData := fun ds => match body (entry n bs ds) () with
  | some (.rt d, _) => some d
  | some (.nx _, _) => some .none
  | _ => none
section
variable {K : PySem.W.Frag} {S : List Addr} {F H : Hp} {bs : List Bool} {vs : List V} {ds : List PyData}
theorem slotsOf_len (h : ArgOk K S F H bs vs ds) : (slotsOf bs ds).length = vs.length := by
  induction h with
  | nil => rfl
  | kept _ _ ih => exact congrArg Nat.succ ih
  | lent _ _ _ ih => exact congrArg Nat.succ ih
theorem entry_slot {Γ : Gm} {N : List Str} (hK : Γ.K = K) (hS : Γ.S = S) (hF : Γ.F0 = F) (hH : Γ.H0 = H) {pre : List V} {pe : Env} (hl : pre.length = pe.length) (h : ArgOk K S F H bs vs ds) :
    ∀ (i : Nat) (w : Val), (pe ++ slotsOf bs ds)[i]? = some (some w) → i < pe.length ∨ SlotOk Γ F H ((pre ++ vs).map some) i w := by
  induction h generalizing pre pe with
  | nil =>
    intro i w e
    left
    have : (pe ++ slotsOf [] [])[i]? = pe[i]? := by simp [slotsOf]
    rw [this] at e
    exact (List.getElem?_eq_some_iff.mp e).1
  | @kept b bs v vs d ds k t ih =>
    intro i w e
    by_cases hi : i < pe.length
    · exact .inl hi
    · right
      have key := @ih (pre ++ [v]) (pe ++ [some (if b then .bor d else .fro d)]) (by simp [hl]) i w (by simpa [slotsOf] using e)
      rcases key with q | q
      · have hii : i = pe.length := by
          rw [List.length_append, List.length_singleton] at q
          omega
        subst hii
        have ew : w = if b then .bor d else .fro d := by
          have : (pe ++ slotsOf (b :: bs) (d :: ds))[pe.length]? = some (some (if b then .bor d else .fro d)) := by
            rw [List.getElem?_append_right (Nat.le_refl _)]
            simp [slotsOf]
          rw [this] at e
          exact (Option.some.inj (Option.some.inj e)).symm
        have hv : ((pre ++ v :: vs).map some)[pe.length]? = some (some v) := by
          rw [← hl, List.getElem?_map, List.getElem?_append_right (Nat.le_refl _)]
          simp
        subst ew
        subst hK
        cases b with
        | true => exact ⟨v, hv, .inl k⟩
        | false => exact ⟨v, hv, k⟩
      · simpa using q
  | @lent bs a vs d ds k nS t ih =>
    intro i w e
    by_cases hi : i < pe.length
    · exact .inl hi
    · right
      have key := @ih (pre ++ [.ref a]) (pe ++ [some (.bor d)]) (by simp [hl]) i w (by simpa [slotsOf] using e)
      rcases key with q | q
      · have hii : i = pe.length := by
          rw [List.length_append, List.length_singleton] at q
          omega
        subst hii
        have ew : w = .bor d := by
          have : (pe ++ slotsOf (true :: bs) (d :: ds))[pe.length]? = some (some (.bor d)) := by
            rw [List.getElem?_append_right (Nat.le_refl _)]
            simp [slotsOf]
          rw [this] at e
          exact (Option.some.inj (Option.some.inj e)).symm
        have hv : ((pre ++ V.ref a :: vs).map some)[pe.length]? = some (some (.ref a)) := by
          rw [← hl, List.getElem?_map, List.getElem?_append_right (Nat.le_refl _)]
          simp
        subst ew
        subst hK
        obtain ⟨o, ho⟩ := k.there
        exact ⟨_, hv, .inr ⟨a, o, rfl, k, by rw [hS]; exact nS, by rw [hF]; exact k.free, by rw [hH]; exact ho⟩⟩
      · simpa using q
theorem noOwn : ∀ {bs : List Bool} {ds : List PyData} (i : Nat) (d : PyData), (slotsOf bs ds)[i]? ≠ some (some (.own d))
  | [], _, i, d => by simp [slotsOf]
  | _ :: _, [], i, d => by simp [slotsOf]
  | b :: bs, x :: ds, 0, d => by cases b <;> simp [slotsOf]
  | b :: bs, x :: ds, i + 1, d => by
    have := noOwn (bs := bs) (ds := ds) i d
    simpa [slotsOf] using this
end
/-- the entry of such a def -/
theorem entry_rep {w0 : World} {K : PySem.W.Frag} {F H : Hp} {bs : List Bool} {vs : List V} {ds : List PyData} {N : List Str} (sm : Same F H) (h : ArgOk K [] F H bs vs ds) : Rep (Gp w0 K F H) F H (L2.start N vs) (entry N.length bs ds) () := by
  have hl := slotsOf_len h
  have hd : ds.length = vs.length := by rw [h.len.1, h.len.2]
  refine { ex := sm, inn := trivial, sF := fun a ha => absurd ha (by simp [Gp]), step0 := Same.refl F, step := fun a o _ q1 q2 => ⟨q1, q2⟩, len := ?_, slots := fun i w e => ?_, sep := fun i j a d e _ hi => ?_ }
  · unfold entry L2.start
    rw [List.length_append, List.length_append, List.length_map, List.length_replicate, List.length_replicate, hl, hd]
  · unfold entry at e
    by_cases hi : i < (slotsOf bs ds).length
    · rw [List.getElem?_append_left hi] at e
      have := entry_slot (Γ := Gp w0 K F H) (N := N) rfl rfl rfl rfl (pre := []) (pe := []) rfl h i w (by simpa using e)
      rcases this with q | q
      · simp at q
      · have hz : (L2.start N vs)[i]? = ((([] : List V) ++ vs).map some)[i]? := by
          unfold L2.start
          rw [List.getElem?_append_left (by rw [List.length_map]; omega), List.nil_append]
        cases w <;> (unfold SlotOk at q ⊢; rw [hz]; exact q)
    · rw [List.getElem?_append_right (by omega), List.getElem?_replicate] at e
      split at e <;> cases e
  · exfalso
    unfold entry at hi
    by_cases hi2 : i < (slotsOf bs ds).length
    · rw [List.getElem?_append_left hi2] at hi
      exact noOwn i d hi
    · rw [List.getElem?_append_right (by omega), List.getElem?_replicate] at hi
      split at hi <;> cases hi
/-- the rule: a def without a tray that raises nothing -/
theorem fn_pure {P : Program} {w : World} {K : PySem.W.Frag} {mg : Str → Option Value} {base : Heap} {k : Nat} {f : Addr} {fd : FuncData} {N ps : List Str} {x qual : Str} {st : Stmt} {bs : List Bool} {body : MS Unit} (F : Fun K x qual st f fd) (S : FnScope N ps (defScope st)) (hn : bs.length = ps.length)
    (hb : ∀ (cdv : Value) (A : Around) (outer : List PySem.Env) (s : Shared) (H F0 : Hp) (E : XK), A.guards = some [] → Room k (A.deeper (PyProof.Rows.envOfC qual (defScope st) s.heap.objs.size f cdv)) →
      PSs (cxOf CX0 P w K mg base N qual (defScope st) f cdv A outer s H E).nox (defBody st) (denS (Gp w K F0 H) body)) : FnG P w K mg base CX0 (k + 1) f fd ps (spP K bs (mFun N.length bs body)) := by
  refine Fn.okG F S (fun vs H Q E h => ?_) fun cdv A outer s H vs Q E hg hr h => ?_
  · obtain ⟨F0, ds, d, _, a, _⟩ := h
    rw [a.len.1, hn]
  · obtain ⟨F0, ds, d, sm, a, e, q⟩ := h
    refine ⟨_, (hb cdv A outer s H F0 E hg hr).nox, F0, entry N.length bs ds, (), ?_⟩
    unfold mFun at e
    have fin : ∀ {F' H' : Hp}, Fin (Gp w K F0 H) F' H' () → Ext [] F0 H F' H' := fun {F' H'} z => ⟨z.step0, z.ex, fun b o _ hb => ?_, fun b o q1 q2 => (z.step b o (by simp [Gp]) q1 q2).1⟩
    · split at e
      · rename_i d1 t1 e1
        cases e
        exact ⟨.rt d, (), entry_rep sm a, e1, fun v F' H' z k => q v F' H' (fin z) k⟩
      · rename_i ρ1 t1 e1
        cases e
        exact ⟨.nx ρ1, (), entry_rep sm a, e1, fun σ' F' H' z _ => q _ F' H' (fin z.toFin) .non⟩
      · cases e
    · by_cases hz : F0 b = none
      · exact (z.step b o (by simp [Gp]) hz hb).2
      · cases z2 : F0 b with
        | none => exact absurd z2 hz
        | some u =>
          have e1 := sm b u z2
          rw [hb] at e1
          cases e1
          exact z.ex b o (z.step0 b o z2)
end Mi
/-! Calls of defs by their mirrors, own lists, loops, comprehensions. -/
namespace Mi
open PySem L2

/-! ### calls -/
/-- arguments as a callee takes them: true: whatever reads as data; false: kept data -/
def argOf (ρ : Env) : Bool → Rv → Option PyData
  | true, r => rd ρ r
  | false, .fro d => some d
  | false, _ => none
def args (ρ : Env) : List Bool → List Rv → Option (List PyData)
  | [], [] => some []
  | b :: bs, r :: rs => do
    let d ← argOf ρ b r
    let ds ← args ρ bs rs
    pure (d :: ds)
  | _, _ => none
section
variable {Γ : Gm} {F H F' H' : Hp} {σ : L2.St} {ρ : Env} {t t' : Γ.T}
theorem args_ok (R : Rep Γ F H σ ρ t) : ∀ {bs : List Bool} {vs : List V} {rs : List Rv} {ds : List PyData}, RvsOk Γ F σ vs rs → args ρ bs rs = some ds → ArgOk Γ.K Γ.S F H bs vs ds
  | [], _, _, _, .nil, e => by cases e; exact .nil
  | _ :: _, _, _, _, .nil, e => by cases e
  | [], _, _, _, .cons _ _, e => by cases e
  | b :: bs, _, _, _, .cons (r := r) h k, e => by
    unfold args at e
    obtain ⟨d, e1, e⟩ := bind_some e
    obtain ⟨ds, e2, e⟩ := bind_some e
    cases e
    have rest := args_ok R k e2
    cases b with
    | false =>
      cases r with
      | fro d' => cases e1; exact .kept h rest
      | tray _ => cases e1
      | loan i => cases e1
    | true =>
      cases r with
      | fro d' => cases e1; exact .kept h rest
      | tray _ => cases e1
      | loan i =>
        have h : σ[i]? = some (some _) := h
        unfold argOf rd at e1
        simp only at e1
        split at e1
        · rename_i q
          cases e1
          obtain ⟨a, e3, o, _, nS⟩ := R.slots i _ q
          rw [h] at e3; cases e3
          exact .lent o nS rest
        · rename_i q
          cases e1
          obtain ⟨w, e3, o⟩ := R.slots i _ q
          rw [h] at e3; cases e3
          rcases o with o | ⟨a, _, rfl, o, nS, _⟩
          · exact .kept o rest
          · exact .lent o nS rest
        · rename_i q
          cases e1
          obtain ⟨w, e3, o⟩ := R.slots i _ q
          rw [h] at e3; cases e3
          exact .kept o rest
        · cases e1
theorem ArgOk.drop {K : PySem.W.Frag} {S : List Addr} {F H : Hp} {bs : List Bool} {vs : List V} {ds : List PyData} (h : ArgOk K S F H bs vs ds) : ArgOk K [] F H bs vs ds := by
  induction h with
  | nil => exact .nil
  | kept k _ ih => exact .kept k ih
  | lent k _ _ ih => exact .lent k (by simp) ih
end
def mCallP {T : Type} (bs : List Bool) (m : List PyData → Option PyData) (fs : Env → T → Option (List Rv × T)) : ME T := fun ρ t => do
  let (rs, t1) ← fs ρ t
  let ds ← args ρ bs rs
  let d ← m ds
  pure (.fro d, t1)
section
variable {Γ : Gm} {X : Cx} {a b c : Expr} {es : List Expr} {pos p : Pos} {x : Str} {k : Nat} {f : Addr} {fd : FuncData} {ps : List Str} {bs : List Bool} {m : List PyData → Option PyData} {ga : Env → Γ.T → Option (List Rv × Γ.T)}
theorem w_callP {E : XK} (σ : L2.St) (H : Hp) (Q : VK) : den Γ (mCallP bs m ga) σ H Q → denA Γ ga σ H fun vs H1 => spP Γ.K bs m vs H1 Q E := by
  rintro ⟨F, ρ, t, r, t', R, e, q⟩
  obtain ⟨⟨rs, t1⟩, e1, e⟩ := bind_some e
  obtain ⟨ds, e2, e⟩ := bind_some e
  obtain ⟨d, e3, e⟩ := bind_some e
  cases e
  refine ⟨F, ρ, t, _, _, R, e1, fun vs F1 H1 R1 x1 k1 => ⟨F1, ds, d, R1.ex, (args_ok R1 k1 e2).drop, e3, fun v F2 H2 x2 k2 => ?_⟩⟩
  exact q v F2 H2 (R1.ext0 x2) (x1.then x2.wide (R1.ext0 x2)) k2
theorem pe_callP (G : FnG X.prog X.w X.K X.mg X.base CX0 k f fd ps (spP Γ.K bs m)) (hg : X.A.guards = some []) (hr : Room k X.A) (hgl : Gl X x) (hm : X.mg x = some (.ref f)) (hk : PySem.W.keepIn X.K (.ref f) = true) (hb : Binds X.K fd ps [])
    (ha : PA X (a :: es) (denA Γ ga)) (hdb : (x == ("__debug__" : Str)) = false := by decide) (he : starEach (a :: es) X.env = (false, eval a X.env) :: starEach es X.env := by rfl) (hpl : (backTo pos (starEach es X.env)).any (·.1) = false := by rfl) :
    PE X (.Call (.Name x p) (a :: es) [] pos) (den Γ (mCallP bs m ga)) := pe_w (pe_callG (E := E0) G hg hr hgl hm hk hb pass0 ha hdb he hpl) w_callP
/-- by names: the values in the parameters' order are those at the places is -/
def pick {α : Type} (is : List Nat) (l : List α) : List α := is.filterMap fun i => l[i]?
def mPick {T : Type} (is : List Nat) (fs : Env → T → Option (List Rv × T)) : Env → T → Option (List Rv × T) := fun ρ t => match fs ρ t with
  | some (rs, t') => some (pick is rs, t')
  | none => none
theorem RvsOk.at {F : Hp} {σ : L2.St} : ∀ {vs : List V} {rs : List Rv}, RvsOk Γ F σ vs rs → ∀ i : Nat, (vs[i]? = none ∧ rs[i]? = none) ∨ ∃ v r, vs[i]? = some v ∧ rs[i]? = some r ∧ RvOk Γ F σ v r
  | _, _, .nil, i => .inl ⟨by simp, by simp⟩
  | _, _, .cons h _, 0 => .inr ⟨_, _, rfl, rfl, h⟩
  | _, _, .cons _ k, i + 1 => by
    rcases RvsOk.at k i with ⟨e1, e2⟩ | ⟨v, r, e1, e2, e3⟩
    · exact .inl ⟨by simpa using e1, by simpa using e2⟩
    · exact .inr ⟨v, r, by simpa using e1, by simpa using e2, e3⟩
theorem RvsOk.pick {F : Hp} {σ : L2.St} {vs : List V} {rs : List Rv} (h : RvsOk Γ F σ vs rs) : ∀ is : List Nat, RvsOk Γ F σ (Mi.pick is vs) (Mi.pick is rs)
  | [] => .nil
  | i :: is => by
    unfold Mi.pick
    rcases h.at i with ⟨e1, e2⟩ | ⟨v, r, e1, e2, e3⟩
    · rw [List.filterMap_cons, List.filterMap_cons, e1, e2]
      exact RvsOk.pick h is
    · rw [List.filterMap_cons, List.filterMap_cons, e1, e2]
      exact .cons e3 (RvsOk.pick h is)
theorem Vals.at : ∀ {vs : List V} {us : List Value}, Vals vs us → ∀ i : Nat, (vs[i]? = none ∧ us[i]? = none) ∨ ∃ v r, vs[i]? = some v ∧ us[i]? = some r ∧ RelV v r
  | _, _, .nil, i => .inl ⟨by simp, by simp⟩
  | _, _, .cons h _, 0 => .inr ⟨_, _, rfl, rfl, h⟩
  | _, _, .cons _ k, i + 1 => by
    rcases Vals.at k i with ⟨e1, e2⟩ | ⟨v, r, e1, e2, e3⟩
    · exact .inl ⟨by simpa using e1, by simpa using e2⟩
    · exact .inr ⟨v, r, by simpa using e1, by simpa using e2, e3⟩
/-! ### one's own list -/
/-- the object in slot i has become d -/
theorem Rep.turn {F H : Hp} {σ : L2.St} {ρ : Env} {t : Γ.T} {i : Nat} {q : Addr} {d0 d : PyData} {o : HO} (R : Rep Γ F H σ ρ t) (hi : ρ[i]? = some (some (.own d0))) (hq : σ[i]? = some (some (.ref q))) (ho : Own Γ.K F (upd H q o) q d) : Rep Γ F (upd H q o) σ (ρ.set i (some (.own d))) t := by
  obtain ⟨a', e1, o1, old, nS⟩ := R.slots i _ hi
  rw [hq] at e1
  cases e1
  have fq := o1.free
  have loc : Γ.In t (upd H q o) := Γ.loc t H _ (fun b hb => upd_ne fun z : b = q => nS (z ▸ hb)) R.inn
  refine { ex := fun b u z => by rw [upd_ne (ne_of_none z fq)]; exact R.ex b u z, inn := loc, sF := R.sF, step0 := R.step0, step := fun b u n1 n2 n3 => ?_, len := by rw [List.length_set]; exact R.len, slots := fun j w e => ?_, sep := fun j k a d e hjk hj hk sj => ?_ }
  · obtain ⟨z1, z2⟩ := R.step b u n1 n2 n3
    have hb : b ≠ q := fun z => by subst z; rw [old] at n3; cases n3
    exact ⟨z1, by rw [upd_ne hb]; exact z2⟩
  · rcases get_set e with ⟨rfl, hw⟩ | ⟨hne, e2⟩
    · cases hw
      exact ⟨q, hq, ho, old, nS⟩
    · have s := R.slots j w e2
      cases w with
      | fro d => exact s
      | own d =>
        obtain ⟨u, z1, z2, z3, z4⟩ := s
        have hu : u ≠ q := fun z => by
          subst z
          exact R.sep i j u d0 d hne hi e2 hq z1
        exact ⟨u, z1, z2.mono (Same.refl F) (fun o h => by rw [upd_ne hu]; exact h) z2.free, z3, z4⟩
      | bor d =>
        obtain ⟨v, z1, z2⟩ := s
        refine ⟨v, z1, ?_⟩
        rcases z2 with z2 | ⟨u, o', e3, z2, z3, z4, z5⟩
        · exact .inl z2
        · have hu : u ≠ q := fun z => by subst z; rw [old] at z5; cases z5
          exact .inr ⟨u, o', e3, z2.mono (Same.refl F) (fun o h => by rw [upd_ne hu]; exact h) z2.free, z3, z4, z5⟩
      | tray _ => exact s
      | kd es =>
        obtain ⟨u, z1, z2, z3, z4⟩ := s
        obtain ⟨φ, hφ⟩ := z2.there
        have hu : u ≠ q := fun z => by
          subst z
          exact o1.notX hφ
        exact ⟨u, z1, z2.mono (Same.refl F) (fun o h => by rw [upd_ne hu]; exact h) z2.free, z3, z4⟩
  · have back2 : ∀ {j : Nat} {d1 d' : PyData}, (ρ.set i (some (.own d1)))[j]? = some (some (.own d')) → ∃ d2, ρ[j]? = some (some (.own d2)) := fun {j d1 d'} h => by
      rcases get_set h with ⟨rfl, _⟩ | ⟨_, h2⟩
      · exact ⟨d0, hi⟩
      · exact ⟨d', h2⟩
    obtain ⟨d2, h2⟩ := back2 hj
    obtain ⟨d3, h3⟩ := back2 hk
    exact R.sep j k a d2 d3 hjk h2 h3 sj
/-- x.append(e) -/
def mApp {T : Type} (i : Nat) (f : ME T) : MS T := fun ρ t => match f ρ t with
  | some (.fro d, t') => match ρ[i]? with
    | some (some (.own (.list ds))) => if ds.length < sizeLine then some (.nx (ρ.set i (some (.own (.list (ds ++ [d]))))), t') else none
    | _ => none
  | _ => none
variable {fa : ME Γ.T}
theorem ps_appD {i : Nat} {o : Expr} {apos cpos : Pos} (ho : PE X o (tVar i)) (ha : PE X a (den Γ fa)) (hs1 : starEach [a] X.env = (false, eval a X.env) :: starEach [] X.env := by rfl) (hbase : attributeBase o "append" X.env (eval o X.env) = eval o X.env := by rfl)
    (hfew : ((backTo cpos (starEach [a] X.env)).all (fun x => !x.1) && (backToKw cpos (keywordEach [] X.env)).all (fun x => x.1.isSome) && decide ([a].length + ([] : List Keyword).length + (if ([] : List Keyword).isEmpty then 0 else 1) < 30)) = true := by rfl)
    (hline : (apos.endLine == cpos.line) = true := by rfl) (hplain : (backTo cpos (starEach [] X.env)).any (·.1) = false := by rfl)
    (hs : swapsWith (.Call (.Attribute o "append" apos) [a] [] cpos) none pos.line X.env = pure false := by rfl) : PS X (.Expr (.Call (.Attribute o "append" apos) [a] [] cpos) pos) (denS Γ (mApp i fa)) := by
  refine ps_w (ps_expr (pe_bm PySem.F.plainAttrs_list PySem.F.slot_list_append PySem.F.type_list_append mt_append ho (pa_cons ha pa_nil hs1) hbase hfew hline hs1 hplain) hs) fun D σ H => ?_
  rintro ⟨F, ρ, t, r, t', R, e, q⟩
  unfold mApp at e
  split at e
  · rename_i d t1 e1
    split at e
    · rename_i ds e2
      split at e
      · rename_i hz
        cases e
        obtain ⟨p1, h1, ⟨h2, ws, h3, h4⟩, old, nS⟩ := R.slots i _ e2
        refine ⟨_, h1, .inl ⟨rfl, ws, .of h3⟩, F, ρ, t, _, _, R, e1, fun v F1 H1 R1 x1 k1 => ?_⟩
        obtain ⟨p2, g1, ⟨g2, ws2, g3, g4⟩, _, _⟩ := R1.slots i _ e2
        rw [h1] at g1
        cases g1
        refine ⟨p1, ws2, v, rfl, rfl, g3, by rw [g4.length]; exact hz, ?_⟩
        exact q σ F1 _ (R1.turn e2 h1 ⟨g2, _, upd_same, g4.snoc k1⟩) x1.f
      · cases e
    · cases e
  · cases e
/-- a statement for which one's own list or dict is kept from now on -/
def mFz {T : Type} (i : Nat) (f : MS T) : MS T := fun ρ t => match ρ[i]? with
  | some (some (.own d)) => f (ρ.set i (some (.fro d))) t
  | _ => f ρ t
theorem Rep.fz {F H : Hp} {σ : L2.St} {ρ : Env} {t : Γ.T} {i : Nat} {d : PyData} (R : Rep Γ F H σ ρ t) (hi : ρ[i]? = some (some (.own d))) : ∃ F', Rep Γ F' H σ (ρ.set i (some (.fro d))) t ∧ Same F F' := by
  obtain ⟨q, e1, o, old, nS⟩ := R.slots i _ hi
  obtain ⟨u, hu, k⟩ := o.froze
  have hil : i < ρ.length := (List.getElem?_eq_some_iff.mp hi).1
  -- first the slot forgotten, then the object kept, then the slot told anew
  have un : ∀ {j : Nat} {w : Val}, (ρ.set i none)[j]? = some (some w) → i ≠ j ∧ ρ[j]? = some (some w) := fun {j w} e => by
    rcases get_set e with ⟨_, z⟩ | z
    · cases z
    · exact z
  have R0 : Rep Γ F H σ (ρ.set i none) t := { R.toFin with len := by rw [List.length_set]; exact R.len, slots := fun j w e => R.slots j w (un e).2, sep := fun j k a d e hjk hj hk => R.sep j k a d e hjk (un hj).2 (un hk).2 }
  have R1 := R0.froze o.free hu (fun φ => o.notX) nS old fun j e hj hs => R.sep i j q d e (un hj).1 hi (un hj).2 e1 hs
  have R2 := R1.setF (i := i) k
  have es : σ.set i (some (.ref q)) = σ := by
    obtain ⟨hl, he⟩ := List.getElem?_eq_some_iff.mp e1
    rw [← he, List.set_getElem_self]
  rw [es, List.set_set] at R2
  exact ⟨_, R2, fun b w z => by rw [upd_ne (ne_of_none z o.free)]; exact z⟩
theorem ps_fz {st : Stmt} {f : MS Γ.T} (i : Nat) (h : PS X st (denS Γ f)) : PS X st (denS Γ (mFz i f)) := ps_w h fun D σ H => by
  rintro ⟨F, ρ, t, r, t', R, e, q⟩
  unfold mFz at e
  split at e
  · rename_i d e1
    obtain ⟨F1, R1, s1⟩ := R.fz e1
    exact ⟨F1, _, t, r, t', R1, e, post_more s1 q⟩
  · exact ⟨F, ρ, t, r, t', R, e, q⟩
end
end Mi
/-! Loops and comprehensions. -/
namespace Mi
open PySem L2

/-! ### what is walked -/
/-- the walk J gives these data, one behind another, as long as what is kept is kept -/
def Walks (Γ : Gm) (F : Hp) (J : It) (items : List PyData) : Prop := ∀ (i : Nat) (F' H' : Hp) (t : Γ.T), Same F F' → Fin Γ F' H' t →
  (∀ d, items[i]? = some d → J.go i H' ∧ ∀ x H'', J.yld i H' x H'' → ∃ F'', Ext [] F' H' F'' H'' ∧ Dq Γ.K F'' x d) ∧ (items.length = i → J.stop i H')
def denI (Γ : Gm) (f : Env → Γ.T → Option (List PyData × Γ.T)) : TI := fun σ H R => ∃ F ρ t items t', Rep Γ F H σ ρ t ∧ f ρ t = some (items, t') ∧
  ∀ F' H' J, Rep Γ F' H' σ ρ t' → Ext Γ.S F H F' H' → Walks Γ F' J items → R J H'
theorem pi_w {X : Cx} {tg e : Expr} {t t' : TI} (h : PI X tg e t) (w : ∀ σ H R, t' σ H R → t σ H R) : PI X tg e t' := ⟨fun pins s σ H R I q => h.run pins s σ H R I (w σ H R q)⟩
theorem pi_or {X : Cx} {tg e : Expr} {t t' : TI} (h : PI X tg e t) (h' : PI X tg e t') : PI X tg e (fun σ H R => t σ H R ∨ t' σ H R) := ⟨fun pins s σ H R I q => by
  rcases q with q | q
  · exact h.run pins s σ H R I q
  · exact h'.run pins s σ H R I q⟩
/-- a list or tuple that stays as it is: kept, or lent -/
def mItems {T : Type} (f : ME T) : Env → T → Option (List PyData × T) := fun ρ t => match f ρ t with
  | some (.fro d, t') => match itemsOf d with
    | some ds => some (ds, t')
    | none => none
  | some (.loan j, t') => match ρ[j]? with
    | some (some (.bor d)) => match itemsOf d with
      | some ds => some (ds, t')
      | none => none
    | _ => none
  | _ => none
section
variable {Γ : Gm} {X : Cx} {a tg : Expr} {pos p : Pos} {fa : ME Γ.T}
theorem stays {F F' H H' : Hp} {t t' : Γ.T} {v : V} {d : PyData} (s : Same F F') (R' : Fin Γ F' H' t')
    (h : Dq Γ.K F v d ∨ ∃ a o, v = .ref a ∧ Own Γ.K F H a d ∧ a ∉ Γ.S ∧ Γ.F0 a = none ∧ Γ.H0 a = some o) (R : Fin Γ F H t) : Dv Γ.K F' H' v d := by
  rcases h with h | ⟨q, o, rfl, h, h1, h2, h3⟩
  · exact (h.mono s).dv R'.ex
  · obtain ⟨z1, z2⟩ := R'.step q o h1 h2 h3
    obtain ⟨_, z3⟩ := R.step q o h1 h2 h3
    exact (h.mono s (fun u hu => by rw [z3] at hu; rw [z2]; exact hu) z1).dv
theorem sq_of {F H : Hp} {K : PySem.W.Frag} {v : V} {d : PyData} {ds : List PyData} (sm : Same F H) (h : Dv K F H v d) (e : itemsOf d = some ds) : ∃ q vs, v = .ref q ∧ DqA K F vs ds ∧ ((∃ es, d = .list es) ∧ SqL K H q vs ∨ (∃ es, d = .tuple es) ∧ SqT K H q vs) := by
  unfold itemsOf at e
  split at e
  · cases e; obtain ⟨q, vs, rfl, h1, k⟩ := h; exact ⟨q, vs, rfl, k, .inl ⟨⟨_, rfl⟩, .of h1⟩⟩
  · cases e; obtain ⟨q, vs, rfl, h1, k⟩ := h; exact ⟨q, vs, rfl, k, .inr ⟨⟨_, rfl⟩, same_t sm h1⟩⟩
  · cases e
/-- from data that stays -/
theorem walk_seq {F H : Hp} {t : Γ.T} {v : V} {d : PyData} {ds : List PyData} (R : Fin Γ F H t) (e : itemsOf d = some ds)
    (h : Dq Γ.K F v d ∨ ∃ a o, v = .ref a ∧ Own Γ.K F H a d ∧ a ∉ Γ.S ∧ Γ.F0 a = none ∧ Γ.H0 a = some o) :
    ∃ q, v = .ref q ∧ (((∃ xs, SqL Γ.K H q xs) ∧ Walks Γ F (Itl Γ.K q) ds) ∨ ((∃ xs, SqT Γ.K H q xs) ∧ Walks Γ F (Itt Γ.K q) ds)) := by
  obtain ⟨q, vs, rfl, k, hq⟩ := sq_of R.ex (stays (Same.refl F) R h R) e
  refine ⟨q, rfl, ?_⟩
  rcases hq with ⟨⟨es, rfl⟩, hq⟩ | ⟨⟨es, rfl⟩, hq⟩
  · refine .inl ⟨⟨vs, hq⟩, fun i F' H' t' s R' => ?_⟩
    obtain ⟨q2, vs2, e2, k2, hq2⟩ := sq_of R'.ex (stays s R' h R) e
    cases e2
    rcases hq2 with ⟨_, hq2⟩ | ⟨⟨es2, z⟩, _⟩
    · refine ⟨fun x hx => ?_, fun hi => ⟨vs2, hq2, by rw [k2.length]; exact Nat.le_of_eq hi⟩⟩
      obtain ⟨y, hy, ky⟩ := k2.get hx
      refine ⟨⟨vs2, y, hq2, hy⟩, fun x' H'' yl => ?_⟩
      obtain ⟨rfl, yl⟩ := yl
      have := yl _ hq2
      rw [hy] at this
      cases this
      exact ⟨F', Ext.refl R'.ex, ky⟩
    · cases z
  · refine .inr ⟨⟨vs, hq⟩, fun i F' H' t' s R' => ?_⟩
    obtain ⟨q2, vs2, e2, k2, hq2⟩ := sq_of R'.ex (stays s R' h R) e
    cases e2
    rcases hq2 with ⟨⟨es2, z⟩, _⟩ | ⟨_, hq2⟩
    · cases z
    · refine ⟨fun x hx => ?_, fun hi => ⟨vs2, hq2, by rw [k2.length]; exact Nat.le_of_eq hi⟩⟩
      obtain ⟨y, hy, ky⟩ := k2.get hx
      refine ⟨⟨vs2, y, hq2, hy⟩, fun x' H'' yl => ?_⟩
      obtain ⟨rfl, yl⟩ := yl
      have := yl _ hq2
      rw [hy] at this
      cases this
      exact ⟨F', Ext.refl R'.ex, ky⟩
/-- the value of a walked expression: kept or lent -/
theorem items_of {f : ME Γ.T} {ρ : Env} {t t' : Γ.T} {items : List PyData} (e : mItems f ρ t = some (items, t')) :
    ∃ r d, f ρ t = some (r, t') ∧ itemsOf d = some items ∧ ∀ F1 H1 σ v, Rep Γ F1 H1 σ ρ t' → RvOk Γ F1 σ v r → (Dq Γ.K F1 v d ∨ ∃ a o, v = .ref a ∧ Own Γ.K F1 H1 a d ∧ a ∉ Γ.S ∧ Γ.F0 a = none ∧ Γ.H0 a = some o) := by
  unfold mItems at e
  split at e
  · rename_i d t1 e1
    split at e
    · rename_i ds e2
      cases e
      exact ⟨_, d, e1, e2, fun F1 H1 σ v R1 k1 => .inl k1⟩
    · cases e
  · rename_i j t1 e1
    split at e
    · rename_i d e3
      split at e
      · rename_i ds e2
        cases e
        refine ⟨_, d, e1, e2, fun F1 H1 σ v R1 k1 => ?_⟩
        obtain ⟨u, z1, z2⟩ := R1.slots j _ e3
        have k1 : σ[j]? = some (some v) := k1
        rw [k1] at z1
        cases z1
        exact z2
      · cases e
    · cases e
  · cases e
theorem pi_seqD (hK : X.K = Γ.K) (h : PE X a (den Γ fa)) : PI X tg a (denI Γ (mItems fa)) := pi_w (pi_or (pi_list h) (pi_tup h)) fun σ H Rr => by
  rintro ⟨F, ρ, t, items, t', R, e, q⟩
  obtain ⟨r, d, e1, e2, hv⟩ := items_of e
  -- the value is one list or one tuple: which one stands in d
  cases d with
  | list es =>
    refine .inl ⟨F, ρ, t, r, t', R, e1, fun v F1 H1 R1 x1 k1 => ?_⟩
    obtain ⟨p1, rfl, hw⟩ := walk_seq R1.toFin e2 (hv F1 H1 σ v R1 k1)
    have dv := stays (Same.refl F1) R1.toFin (hv F1 H1 σ _ R1 k1) R1.toFin
    obtain ⟨p2, vs, z1, z2, z3⟩ := dv
    cases z1
    rcases hw with ⟨hx, hw⟩ | ⟨_, hw⟩
    · rw [hK]; exact ⟨p1, rfl, hx, q F1 H1 _ R1 x1 hw⟩
    · obtain ⟨q2, vs2, y1, k2, hq2⟩ := sq_of R1.ex (stays (Same.refl F1) R1.toFin (hv F1 H1 σ _ R1 k1) R1.toFin) e2
      cases y1
      obtain ⟨qq, rq, hw2⟩ := walk_seq R1.toFin e2 (hv F1 H1 σ _ R1 k1)
      cases rq
      rcases hq2 with ⟨_, hq2⟩ | ⟨⟨es2, z⟩, _⟩
      · have w2 : Walks Γ F1 (Itl Γ.K p1) items := by
          intro i F' H' t2 s R'
          obtain ⟨q3, vs3, y3, k3, hq3⟩ := sq_of R'.ex (stays s R' (hv F1 H1 σ _ R1 k1) R1.toFin) e2
          cases y3
          rcases hq3 with ⟨_, hq3⟩ | ⟨⟨es3, z⟩, _⟩
          · refine ⟨fun x hx => ?_, fun hi => ⟨vs3, hq3, by rw [k3.length]; exact Nat.le_of_eq hi⟩⟩
            obtain ⟨y, hy, ky⟩ := k3.get hx
            refine ⟨⟨vs3, y, hq3, hy⟩, fun x' H'' yl => ?_⟩
            obtain ⟨rfl, yl⟩ := yl
            have := yl _ hq3
            rw [hy] at this
            cases this
            exact ⟨F', Ext.refl R'.ex, ky⟩
          · cases z
        rw [hK]; exact ⟨p1, rfl, ⟨vs2, hq2⟩, q F1 H1 _ R1 x1 w2⟩
      · cases z
  | tuple es =>
    refine .inr ⟨F, ρ, t, r, t', R, e1, fun v F1 H1 R1 x1 k1 => ?_⟩
    obtain ⟨q2, vs2, rfl, k2, hq2⟩ := sq_of R1.ex (stays (Same.refl F1) R1.toFin (hv F1 H1 σ v R1 k1) R1.toFin) e2
    rcases hq2 with ⟨⟨es2, z⟩, _⟩ | ⟨_, hq2⟩
    · cases z
    · have w2 : Walks Γ F1 (Itt Γ.K q2) items := by
        intro i F' H' t2 s R'
        obtain ⟨q3, vs3, y3, k3, hq3⟩ := sq_of R'.ex (stays s R' (hv F1 H1 σ _ R1 k1) R1.toFin) e2
        cases y3
        rcases hq3 with ⟨⟨es3, z⟩, _⟩ | ⟨_, hq3⟩
        · cases z
        · refine ⟨fun x hx => ?_, fun hi => ⟨vs3, hq3, by rw [k3.length]; exact Nat.le_of_eq hi⟩⟩
          obtain ⟨y, hy, ky⟩ := k3.get hx
          refine ⟨⟨vs3, y, hq3, hy⟩, fun x' H'' yl => ?_⟩
          obtain ⟨rfl, yl⟩ := yl
          have := yl _ hq3
          rw [hy] at this
          cases this
          exact ⟨F', Ext.refl R'.ex, ky⟩
      rw [hK]; exact ⟨q2, rfl, ⟨vs2, hq2⟩, q F1 H1 _ R1 x1 w2⟩
  | none => cases e2
  | bool b => cases e2
  | int i => cases e2
  | str x => cases e2
  | dict es => cases e2

/-! ### range -/
def mRange1 {T : Type} (g : Env → T → Option (List Rv × T)) : Env → T → Option (List PyData × T) := fun ρ t => match g ρ t with
  | some ([.fro (.int j)], t') => if -(2 ^ 62) ≤ j ∧ j < 2 ^ 62 then some ((List.range j.toNat).map fun (k : Nat) => PyData.int (k : Int), t') else none
  | _ => none
theorem walk_range {F : Hp} {lo : Int} {n : Nat} : Walks Γ F (Itr lo n) ((List.range n).map fun (k : Nat) => PyData.int (lo + (k : Int))) := fun i F' H' t s R => by
  refine ⟨fun d hd => ?_, fun hi => (show n ≤ i by rw [List.length_map, List.length_range] at hi; exact Nat.le_of_eq hi)⟩
  rw [List.getElem?_map] at hd
  cases e : (List.range n)[i]? with
  | none => rw [e] at hd; cases hd
  | some k =>
    rw [e] at hd
    cases hd
    obtain ⟨h1, h2⟩ := List.getElem?_eq_some_iff.mp e
    have hk : k = i := by rw [← h2]; simp
    subst hk
    refine ⟨(show k < n by simpa using h1), fun x H'' y => ?_⟩
    obtain ⟨rfl, rfl⟩ := y
    exact ⟨F', Ext.refl R.ex, .int _⟩
variable {b : Expr} {ga : Env → Γ.T → Option (List Rv × Γ.T)}
theorem pi_range1D (hg : Gl X "range") (hm : X.mg "range" = none) (ha : PA X [a] (denA Γ ga)) (hs : starEach [a] X.env = [(false, eval a X.env)] := by rfl) : PI X tg (.Call (.Name "range" p) [a] [] pos) (denI Γ (mRange1 ga)) := pi_w (pi_range1 hg hm ha hs) fun σ H Rr => by
  rintro ⟨F, ρ, t, items, t', R, e, q⟩
  unfold mRange1 at e
  split at e
  · rename_i j t1 e1
    split at e
    · rename_i hz
      cases e
      refine ⟨F, ρ, t, _, _, R, e1, fun vs F1 H1 R1 x1 k1 => ?_⟩
      cases k1 with
      | cons k1 kn =>
        cases kn
        cases (show Dq Γ.K F1 _ (.int j) from k1)
        refine ⟨j, rfl, hz.1, hz.2, q F1 H1 _ R1 x1 ?_⟩
        have := walk_range (Γ := Γ) (F := F1) (lo := 0) (n := j.toNat)
        simpa using this
    · cases e
  · cases e
/-! ### for -/
def forL {T : Type} (g : PyData → Env → Option Env) (body : MS T) : List PyData → MS T
  | [], ρ, t => some (.nx ρ, t)
  | d :: ds, ρ, t => match g d ρ with
    | none => none
    | some ρ1 => match body ρ1 t with
      | some (.nx ρ2, t2) => forL g body ds ρ2 t2
      | some (.ct ρ2, t2) => forL g body ds ρ2 t2
      | some (.bk ρ2, t2) => some (.nx ρ2, t2)
      | some (.rt x, t2) => some (.rt x, t2)
      | none => none
def mFor {T : Type} (its : Env → T → Option (List PyData × T)) (g : PyData → Env → Option Env) (body : MS T) : MS T := fun ρ t => match its ρ t with
  | some (items, t1) => forL g body items ρ t1
  | none => none
variable {its : Env → Γ.T → Option (List PyData × Γ.T)} {g : PyData → Env → Option Env} {sa : MS Γ.T} {ks : List Nat}
theorem ps_forD {body : List Stmt} (hp : PassesOwn (model X.prog X.w) X.A X.env X.xe) (hc : X.calm = true) (hi : PI X tg a (denI Γ its)) (hg : PG X tg (denG Γ ks g)) (hb : PSs X body (denS Γ sa))
    (hs : ∀ x, foldedSetIterable a X.env x = pure x := by intro _; rfl) : PS X (.For tg a body [] pos) (denS Γ (mFor its g sa)) := ps_w (ps_for hp hc hi hg hb hs) fun D σ H => by
  rintro ⟨F, ρ, t, r, t', R, e, q⟩
  unfold mFor at e
  split at e
  · rename_i items t1 e1
    refine ⟨F, ρ, t, items, t1, R, e1, fun F1 H1 J R1 x1 wk => ?_⟩
    refine ⟨fun i m σ2 H2 => m = items.length - i ∧ i ≤ items.length ∧ ∃ F2 ρ2 t2, Same F1 F2 ∧ Rep Γ F2 H2 σ2 ρ2 t2 ∧ forL g sa (items.drop i) ρ2 t2 = some (r, t'), ⟨items.length, by simp, Nat.zero_le _, F1, ρ, t1, Same.refl _, R1, by simpa using e⟩, ?_⟩
    rintro i m σ2 H2 ⟨rfl, hi, F2, ρ2, t2, s2, R2, e2⟩
    obtain ⟨w1, w2⟩ := wk i F2 H2 t2 s2 R2.toFin
    by_cases hlt : i < items.length
    · right
      have hd : items[i]? = some items[i] := List.getElem?_eq_getElem hlt
      obtain ⟨go, yl⟩ := w1 _ hd
      have eD : items.drop i = items[i] :: items.drop (i + 1) := List.drop_eq_getElem_cons hlt
      rw [eD] at e2
      unfold forL at e2
      split at e2
      · cases e2
      · rename_i ρ3 e3
        refine ⟨go, fun σ' H' => ∃ F' ρ' t2', Same F1 F' ∧ Rep Γ F' H' σ' ρ' t2' ∧ forL g sa (items.drop (i + 1)) ρ' t2' = some (r, t'), fun σ' H' hN => ?_, fun x H' hy => ?_⟩
        · obtain ⟨F', ρ', t2', n1, n2, n3⟩ := hN
          exact ⟨items.length - (i + 1), by omega, rfl, hlt, F', ρ', t2', n1, n2, n3⟩
        · obtain ⟨F3, x3, k3⟩ := yl x H' hy
          refine ⟨F3, ρ2, t2, _, ρ3, R2.ext0 x3, k3, e3, fun σ3 R3 _ => ?_⟩
          have s3 : Same F1 F3 := s2.trans x3.f
          split at e2
          · rename_i ρ4 t4 e4
            exact ⟨F3, ρ3, t2, _, _, R3, e4, fun σ4 F4 H4 R4 s4 => ⟨F4, ρ4, t4, s3.trans s4, R4, e2⟩⟩
          · rename_i ρ4 t4 e4
            exact ⟨F3, ρ3, t2, _, _, R3, e4, fun σ4 F4 H4 R4 s4 => ⟨F4, ρ4, t4, s3.trans s4, R4, e2⟩⟩
          · rename_i ρ4 t4 e4
            cases e2
            exact ⟨F3, ρ3, t2, _, _, R3, e4, fun σ4 F4 H4 R4 s4 => q σ4 F4 H4 R4 ((x1.f.trans s3).trans s4)⟩
          · rename_i x4 t4 e4
            cases e2
            exact ⟨F3, ρ3, t2, _, _, R3, e4, q⟩
          · cases e2
    · have e0 : i = items.length := by omega
      subst e0
      rw [List.drop_length] at e2
      cases e2
      exact .inl ⟨w2 rfl, q σ2 F2 H2 R2 (x1.f.trans s2)⟩
  · cases e

/-! ### while -/
def whileN {T : Type} (c : Env → T → Option (Bool × T)) (body : MS T) : Nat → MS T
  | 0, _, _ => none
  | n + 1, ρ, t => match c ρ t with
    | some (true, t1) => match body ρ t1 with
      | some (.nx ρ2, t2) => whileN c body n ρ2 t2
      | some (.ct ρ2, t2) => whileN c body n ρ2 t2
      | some (.bk ρ2, t2) => some (.nx ρ2, t2)
      | some (.rt x, t2) => some (.rt x, t2)
      | none => none
    | some (false, t1) => some (.nx ρ, t1)
    | none => none
variable {tc : Env → Γ.T → Option (Bool × Γ.T)}
/-- a while that ends within n turns -/
theorem ps_whileD {body : List Stmt} (n : Nat) (hp : PassesOwn (model X.prog X.w) X.A X.env X.xe) (hc : PT X a (denT Γ tc)) (hb : PSs X body (denS Γ sa)) : PS X (.While a body [] pos) (denS Γ (whileN tc sa n)) := ps_w (ps_while hp hc hb) fun D σ H => by
  rintro ⟨F, ρ, t, r, t', R, e, q⟩
  refine ⟨fun m σ2 H2 => ∃ F2 ρ2 t2, Same F F2 ∧ Rep Γ F2 H2 σ2 ρ2 t2 ∧ whileN tc sa m ρ2 t2 = some (r, t'), ⟨n, F, ρ, t, Same.refl _, R, e⟩, ?_⟩
  rintro m σ2 H2 ⟨F2, ρ2, t2, s2, R2, e2⟩
  cases m with
  | zero => cases e2
  | succ m =>
    unfold whileN at e2
    split at e2
    · rename_i t3 e3
      refine ⟨F2, ρ2, t2, _, _, R2, e3, fun F3 H3 R3 x3 => iteT ⟨fun σ' H' => ∃ F' ρ' t2', Same F F' ∧ Rep Γ F' H' σ' ρ' t2' ∧ whileN tc sa m ρ' t2' = some (r, t'), fun σ' H' hN => ⟨m, Nat.lt_succ_self m, hN⟩, ?_⟩⟩
      have s3 : Same F F3 := s2.trans x3.f
      split at e2
      · rename_i ρ4 t4 e4
        exact ⟨F3, ρ2, t3, _, _, R3, e4, fun σ4 F4 H4 R4 s4 => ⟨F4, ρ4, t4, s3.trans s4, R4, e2⟩⟩
      · rename_i ρ4 t4 e4
        exact ⟨F3, ρ2, t3, _, _, R3, e4, fun σ4 F4 H4 R4 s4 => ⟨F4, ρ4, t4, s3.trans s4, R4, e2⟩⟩
      · rename_i ρ4 t4 e4
        cases e2
        exact ⟨F3, ρ2, t3, _, _, R3, e4, fun σ4 F4 H4 R4 s4 => q σ4 F4 H4 R4 (s3.trans s4)⟩
      · rename_i x4 t4 e4
        cases e2
        exact ⟨F3, ρ2, t3, _, _, R3, e4, q⟩
      · cases e2
    · rename_i t3 e3
      cases e2
      exact ⟨F2, ρ2, t2, _, _, R2, e3, fun F3 H3 R3 x3 => iteF (q σ2 F3 H3 R3 (s2.trans x3.f))⟩
    · cases e2

/-! ### comprehensions -/
def wipeR (ρ : Env) : List Nat → Env
  | [] => ρ
  | v :: vs => (wipeR ρ vs).set v none
theorem wipeR_len (ρ : Env) : ∀ vs : List Nat, (wipeR ρ vs).length = ρ.length
  | [] => rfl
  | v :: vs => by unfold wipeR; rw [List.length_set, wipeR_len ρ vs]
theorem wipeR_get {ρ : Env} {i : Nat} {w : Val} : ∀ {vs : List Nat}, (wipeR ρ vs)[i]? = some (some w) → ρ[i]? = some (some w) ∧ i ∉ vs
  | [], h => ⟨h, by simp⟩
  | v :: vs, h => by
    unfold wipeR at h
    rcases get_set h with ⟨_, z⟩ | ⟨hne, z⟩
    · cases z
    · obtain ⟨z1, z2⟩ := wipeR_get z
      exact ⟨z1, fun z => (List.mem_cons.mp z).elim (fun e => hne e.symm) z2⟩
theorem Rep.wiped {F H : Hp} {σ : L2.St} {ρ : Env} {t : Γ.T} (R : Rep Γ F H σ ρ t) (vs : List Nat) : Rep Γ F H (wipe σ vs) (wipeR ρ vs) t := by
  have back : ∀ {i : Nat} {w : Val} {v : V}, (wipeR ρ vs)[i]? = some (some w) → σ[i]? = some (some v) → (wipe σ vs)[i]? = some (some v) := fun {i w v} h e => by rw [wipe_out (wipeR_get h).2]; exact e
  refine { R.toFin with len := by rw [wipeR_len, wipe_length]; exact R.len, slots := fun i w h => ?_, sep := fun i j a d e hij hi hj si sj => ?_ }
  · have s := R.slots i w (wipeR_get h).1
    cases w with
    | fro d => obtain ⟨v, e, q⟩ := s; exact ⟨v, back h e, q⟩
    | own d => obtain ⟨v, e, q⟩ := s; exact ⟨v, back h e, q⟩
    | bor d => obtain ⟨v, e, q⟩ := s; exact ⟨v, back h e, q⟩
    | tray _ => exact back h s
    | kd es => obtain ⟨v, e, q⟩ := s; exact ⟨v, back h e, q⟩
  · rw [wipe_out (wipeR_get hi).2] at si
    rw [wipe_out (wipeR_get hj).2] at sj
    exact R.sep i j a d e hij (wipeR_get hi).1 (wipeR_get hj).1 si sj
def lcL {T : Type} (g : PyData → Env → Option Env) (c : Env → T → Option (Bool × T)) (f : ME T) (ρ : Env) : List PyData → List PyData → T → Option (List PyData × T)
  | [], acc, t => some (acc, t)
  | d :: ds, acc, t => match g d ρ with
    | none => none
    | some ρ1 => match c ρ1 t with
      | some (true, t1) => match f ρ1 t1 with
        | some (.fro x, t2) => if acc.length < sizeLine then lcL g c f ρ ds (acc ++ [x]) t2 else none
        | _ => none
      | some (false, t1) => lcL g c f ρ ds acc t1
      | none => none
def mYes {T : Type} : Env → T → Option (Bool × T) := fun _ t => some (true, t)
def mLc {T : Type} (its : Env → T → Option (List PyData × T)) (g : PyData → Env → Option Env) (c : Env → T → Option (Bool × T)) (f : ME T) (vs : List Nat) : Env → T → Option (PyData × T) := fun ρ t => match its ρ t with
  | some (items, t1) => match lcL g c f (wipeR ρ vs) items [] t1 with
    | some (ds, t2) => some (.list ds, t2)
    | none => none
  | none => none
theorem pts_w {e : List Expr} {t t' : TT} (h : PTs X e t) (w : ∀ σ H Q, t' σ H Q → t σ H Q) : PTs X e t' := ⟨fun pins s σ H Q I q => h.run pins s σ H Q I (w σ H Q q)⟩
theorem pts_nilD : PTs X [] (denT Γ mYes) := pts_w pts_nil fun σ H Q => by
  rintro ⟨F, ρ, t, r, t', R, e, q⟩
  cases e
  exact q F H R (Ext.refl R.ex)
theorem pts_oneD (h : PT X a (denT Γ tc)) : PTs X [a] (denT Γ tc) := pts_one h
variable {vs : List Nat} {fc : ME Γ.T}
theorem w_lc (σ : L2.St) (H : Hp) (Q : VK) : denL Γ (mLc its g tc fc vs) σ H Q → tLc (denI Γ its) (denG Γ vs g) (denT Γ tc) (den Γ fc) vs σ H Q := by
  rintro ⟨F, ρ, t, r, t', R, e, q⟩
  unfold mLc at e
  split at e
  · rename_i items t1 e1
    split at e
    · rename_i ds t2 e2
      cases e
      refine ⟨F, ρ, t, items, t1, R, e1, fun F1 H1 J R1 x1 wk D hD => ?_⟩
      have oldD := R1.toFin.old hD
      have fD1 : F1 D = none := R1.ex.free hD
      refine ⟨fun i m H2 => m = items.length - i ∧ i ≤ items.length ∧ ∃ F2 t2 acc xs, Ext Γ.S F1 H1 F2 H2 ∧ Rep Γ F2 H2 (wipe σ vs) (wipeR ρ vs) t2 ∧ H2 D = some (.lst xs) ∧ F2 D = none ∧ DqA Γ.K F2 xs acc ∧ lcL g tc fc (wipeR ρ vs) (items.drop i) acc t2 = some (ds, t'),
        ⟨items.length, by simp, Nat.zero_le _, F1, t1, [], [], Ext.new R1.ex hD, (R1.ext0 (Ext.new R1.ex hD)).wiped vs, upd_same, fD1, .nil, by simpa using e2⟩, ?_⟩
      rintro i m H2 ⟨rfl, hi, F2, t2, acc, xs, x2, R2, hD2, fD2, k2, e3⟩
      obtain ⟨w1, w2⟩ := wk i F2 H2 t2 x2.f R2.toFin
      by_cases hlt : i < items.length
      · right
        have hd : items[i]? = some items[i] := List.getElem?_eq_getElem hlt
        obtain ⟨go, yl⟩ := w1 _ hd
        have eD : items.drop i = items[i] :: items.drop (i + 1) := List.drop_eq_getElem_cons hlt
        rw [eD] at e3
        unfold lcL at e3
        split at e3
        · cases e3
        · rename_i ρ3 e4
          refine ⟨go, fun H' => ∃ F' t2' acc' xs', Ext Γ.S F1 H1 F' H' ∧ Rep Γ F' H' (wipe σ vs) (wipeR ρ vs) t2' ∧ H' D = some (.lst xs') ∧ F' D = none ∧ DqA Γ.K F' xs' acc' ∧ lcL g tc fc (wipeR ρ vs) (items.drop (i + 1)) acc' t2' = some (ds, t'), fun H' hN => ?_, fun x H' hy => ?_⟩
          · obtain ⟨F', t2', acc', xs', n⟩ := hN
            exact ⟨items.length - (i + 1), by omega, rfl, hlt, F', t2', acc', xs', n⟩
          · obtain ⟨F3, x3, k3⟩ := yl x H' hy
            have R3 := R2.ext0 x3
            refine ⟨F3, wipeR ρ vs, t2, _, ρ3, R3, k3, e4, fun σ3 R4 w3 => ?_⟩
            have ww : wipe (wipe σ vs) vs = wipe σ vs := by
              have gen : ∀ (us : List Nat), (∀ u ∈ us, u ∈ vs) → wipe (wipe σ us) vs = wipe σ vs := by
                intro us
                induction us with
                | nil => intro _; rfl
                | cons u us ih =>
                  intro hu
                  show wipe ((wipe σ us).set u none) vs = wipe σ vs
                  rw [wipe_put (hu u List.mem_cons_self), ih fun z hz => hu z (List.mem_cons_of_mem _ hz)]
              exact gen vs fun _ h => h
            refine ⟨w3.trans ww, ?_⟩
            have x23 : Ext Γ.S F1 H1 F3 H' := x2.then x3.wide R3
            have dH : ∀ {F5 H5 : Hp} {ρ5 : Env} {σ5 : L2.St} {t5 : Γ.T}, Ext Γ.S F3 H' F5 H5 → Rep Γ F5 H5 σ5 ρ5 t5 → H5 D = some (.lst xs) ∧ F5 D = none := fun {F5 H5 ρ5 σ5 t5} x5 R5 =>
              ⟨x5.h D _ oldD.2 (x3.h D _ (by simp) hD2), x5.n D (.lst xs) (x3.n D _ fD2 hD2) (x3.h D _ (by simp) hD2)⟩
            split at e3
            · rename_i t4 e5
              refine ⟨F3, ρ3, t2, _, _, R4, e5, fun F5 H5 R5 x5 => iteT ?_⟩
              split at e3
              · rename_i y t6 e6
                split at e3
                · rename_i hz
                  refine ⟨F5, ρ3, t4, _, _, R5, e6, fun yv F6 H6 R6 x6 k6 => ?_⟩
                  have x56 : Ext Γ.S F3 H' F6 H6 := x5.then x6 R6
                  obtain ⟨d1, d2⟩ := dH x56 R6
                  have k26 : DqA Γ.K F6 xs acc := (k2.mono x3.f).mono x56.f
                  refine ⟨xs, d1, by rw [k26.length]; exact hz, F6, t6, acc ++ [y], xs ++ [yv], ?_, ?_, upd_same, d2, k26.snoc k6, e3⟩
                  · have x16 := x23.then x56 R6
                    exact ⟨x16.f, fun b u z => by rw [upd_ne (ne_of_none z d2)]; exact x16.e b u z, fun b u z1 z2 => by rw [upd_ne (ne_of_none z2 hD)]; exact x16.h b u z1 z2, fun b u z1 z2 => x16.n b u z1 z2⟩
                  · have Rb : Rep Γ F6 H6 (wipe σ vs) (wipeR ρ vs) t6 := R3.ext x56 R6.inn R6.sF
                    exact { ex := fun b u z => by rw [upd_ne (ne_of_none z d2)]; exact Rb.ex b u z, inn := Γ.loc t6 H6 _ (fun b hb => upd_ne fun z : b = D => oldD.2 (z ▸ hb)) Rb.inn, sF := Rb.sF, step0 := Rb.step0,
                            step := fun b u n1 n2 n3 => by
                              obtain ⟨z1, z2⟩ := Rb.step b u n1 n2 n3
                              exact ⟨z1, by rw [upd_ne (fun z : b = D => by subst z; rw [oldD.1] at n3; cases n3)]; exact z2⟩
                            len := Rb.len
                            slots := fun j w hw => by
                              have s := Rb.slots j w hw
                              have s0 := (R1.wiped vs).slots j w hw
                              cases w with
                              | fro d => exact s
                              | own d =>
                                obtain ⟨u, z1, z2, z3⟩ := s
                                obtain ⟨u0, y1, y2, _⟩ := s0
                                rw [z1] at y1
                                cases y1
                                obtain ⟨o, ho⟩ := y2.there
                                exact ⟨u, z1, z2.mono (Same.refl _) (fun o' h => by rw [upd_ne (ne_of_none ho hD)]; exact h) z2.free, z3⟩
                              | bor d =>
                                obtain ⟨v, z1, z2⟩ := s
                                refine ⟨v, z1, ?_⟩
                                rcases z2 with z2 | ⟨u, o', e3', z2, z3, z4, z5⟩
                                · exact .inl z2
                                · exact .inr ⟨u, o', e3', z2.mono (Same.refl _) (fun o h => by rw [upd_ne (fun z : u = D => by subst z; rw [oldD.1] at z5; cases z5)]; exact h) z2.free, z3, z4, z5⟩
                              | tray _ => exact s
                              | kd d =>
                                obtain ⟨u, z1, z2, z3⟩ := s
                                obtain ⟨u0, y1, y2, _⟩ := s0
                                rw [z1] at y1
                                cases y1
                                obtain ⟨o, ho⟩ := y2.there
                                exact ⟨u, z1, z2.mono (Same.refl _) (fun o' h => by rw [upd_ne (ne_of_none ho hD)]; exact h) z2.free, z3⟩
                            sep := Rb.sep }
                · cases e3
              · cases e3
            · rename_i t4 e5
              refine ⟨F3, ρ3, t2, _, _, R4, e5, fun F5 H5 R5 x5 => iteF ?_⟩
              obtain ⟨d1, d2⟩ := dH x5 R5
              exact ⟨F5, t4, acc, xs, x23.then x5 R5, R3.ext x5 R5.inn R5.sF, d1, d2, (k2.mono x3.f).mono x5.f, e3⟩
            · cases e3
      · have e0 : i = items.length := by omega
        subst e0
        rw [List.drop_length] at e3
        cases e3
        refine .inl ⟨w2 rfl, ?_⟩
        have Rf : Rep Γ F2 H2 σ ρ t' := R1.ext x2 R2.inn R2.sF
        refine q D F2 H2 Rf (x1.then x2 Rf) ⟨⟨fD2, xs, hD2, k2⟩, old_none x1 R1 hD, oldD.1, oldD.2, fun j w hw hs => ?_⟩
        obtain ⟨u, z1, z2, _⟩ := R1.slots j _ hw
        rw [hs] at z1
        cases z1
        obtain ⟨o, ho⟩ := z2.there
        rw [hD] at ho
        cases ho
    · cases e
  · cases e
theorem pe_lcD {elt iter : Expr} {ifs : List Expr} {scope : Scope} {own : List (Str × Nat)} (hc : X.calm = true) (hN : X.N.Nodup) (hi : PI X tg iter (denI Γ its)) (ok : BlkOk X.N X.env.scope scope own)
    (hg : ∀ (s : Shared) (H : Hp) (C : Addr) (cl : List (Str × Addr)) (fp : List Addr), PG (X.blk s H scope (compEnvC scope cl C X.env) fp) tg (denG Γ (own.map (·.2)) g)) (ht : ∀ (s : Shared) (H : Hp) (C : Addr) (cl : List (Str × Addr)) (fp : List Addr), PTs (X.blk s H scope (compEnvC scope cl C X.env) fp) ifs (denT Γ tc))
    (he : ∀ (s : Shared) (H : Hp) (C : Addr) (cl : List (Str × Addr)) (fp : List Addr), PE (X.blk s H scope (compEnvC scope cl C X.env) fp) elt (den Γ fc)) (hs : ∀ x, foldedSetIterable iter X.env x = pure x := by intro _; rfl) :
    PE X (.ListComp elt [⟨tg, iter, ifs, 0⟩] scope pos) (denL Γ (mLc its g tc fc (own.map (·.2)))) := pe_w (pe_lc hc hN hi ok hg ht he hs) w_lc
/-- name = [..] on one line -/
theorem ps_lcD {i : Nat} {y : Str} {py spos : Pos} {elt iter : Expr} {ifs : List Expr} {scope : Scope} {own : List (Str × Nat)} (hc : X.calm = true) (hN : X.N.Nodup) (hy : X.N[i]? = some y) (hyl : X.env.scope.names.lookup y = some .local)
    (hsw : swapsWith (.ListComp elt [⟨tg, iter, ifs, 0⟩] scope pos) (some (.Name y py)) spos.line X.env = pure true) (hi : PI X tg iter (denI Γ its)) (ok : BlkOk X.N X.env.scope scope own)
    (hg : ∀ (s : Shared) (H : Hp) (C : Addr) (cl : List (Str × Addr)) (fp : List Addr), PG (X.blk s H scope (compEnvC scope cl C X.env) fp) tg (denG Γ (own.map (·.2)) g)) (ht : ∀ (s : Shared) (H : Hp) (C : Addr) (cl : List (Str × Addr)) (fp : List Addr), PTs (X.blk s H scope (compEnvC scope cl C X.env) fp) ifs (denT Γ tc))
    (he : ∀ (s : Shared) (H : Hp) (C : Addr) (cl : List (Str × Addr)) (fp : List Addr), PE (X.blk s H scope (compEnvC scope cl C X.env) fp) elt (den Γ fc)) (hs : ∀ x, foldedSetIterable iter X.env x = pure x := by intro _; rfl) :
    PS X (.Assign [.Name y py] (.ListComp elt [⟨tg, iter, ifs, 0⟩] scope pos) spos) (denS Γ (mSet i (mNew (mLc its g tc fc (own.map (·.2)))))) := ps_w (ps_setLc hc hN hy hyl hsw hi ok hg ht he hs) fun D σ H => by
  rintro ⟨F, ρ, t, r, t', R, e, q⟩
  unfold mSet at e
  split at e
  · rename_i w t1 e1
    unfold mNew at e1
    split at e1
    · rename_i d t2 e2
      cases e1
      cases e
      refine w_lc σ H _ ⟨F, ρ, t, _, _, R, e2, fun p1 F1 H1 R1 x1 fr => ?_⟩
      exact q _ F1 H1 (NsOk.step (ws := []) (vs := []) R1 (.own fr .nil fun j e z => by simp at z)).1 x1.f
    · cases e1
  · cases e
end
end Mi
/-! enumerate over lists and tuples; repr. -/
namespace PySem
/-- enumerate of whatever an iterator can be made of -/
theorem enum_made {v : Value} {ob : Obj} {HH : Heap → Prop} (B : Begins v ob HH) :
    Meets (Builtin.«enumerate.__new__» ⟨[.type "enumerate", v], []⟩) (fun _ R s => HH s.heap ∧
      R (.ok (.ret (.ref (s.heap.push ob).objs.size))) { s with heap := (s.heap.push ob).push { cls := .type "enumerate", data := .fields #[.none, .bool false, .ref s.heap.objs.size, rawInt 0, .none, .none] } }) :=
  .of_wp fun prog w A R s given => by
    obtain ⟨hh, gg, dd, kk, oo⟩ := s
    have sure := sub_enumerate
    have it : ∀ {A' : Around} {E Q : Value → Shared → Prop}, Q (.ref hh.objs.size) ⟨hh.push ob, gg, dd, kk, oo⟩ → wpAny (model prog w) A' (pyIter v) Q E ⟨hh, gg, dd, kk, oo⟩ :=
      fun z => B.iter prog w _ _ ⟨hh, gg, dd, kk, oo⟩ _ given.1 z
    wp_walk using it
    refine wpAny_stack_any fun frames => wpAny_pure ?_
    split
    · rename_i cc _ _ _ _ _
      cases (cc == Value.type "enumerate") <;> (wp_walk using it; exact ⟨_, rfl, given.2⟩)
    · wp_walk using it
      exact ⟨_, rfl, given.2⟩
theorem enum_call {prog : Program} {w : World} {A : Around} {E : Value → Shared → Prop} {s : Shared} {v : Value} {ob : Obj} {HH : Heap → Prop} {Q : Value → Shared → Prop} (B : Begins v ob HH) (given : HH s.heap)
    (next : ∀ h', IsEnum h' (s.heap.objs.size + 1) s.heap.objs.size 0 .none → h'.get? s.heap.objs.size = some ob → (∀ b o, s.heap.get? b = some o → h'.get? b = some o) → Q (.ref (s.heap.objs.size + 1)) { s with heap := h' }) :
    wpAny (model prog w) A (call (.type "enumerate") [v]) Q E s := by
  refine callType_new F.called_enumerate (by decide) (F.typeCall_enumerate_1 _) (F.newCall_enumerate_1 _) (fun o => F.args_object_init_2 o _) F.entry_enumerate_new (enum_made B) ⟨given, ?_⟩
  have size1 : (s.heap.push ob).objs.size = s.heap.objs.size + 1 := Heap.size_push ..
  have at0 : (s.heap.push ob).get? s.heap.objs.size = some ob := Heap.get?_push_size _ B.free
  have at1 := Heap.get?_push_size (s.heap.push ob) (o := { cls := .type "enumerate", data := .fields #[.none, .bool false, .ref s.heap.objs.size, rawInt 0, .none, .none] }) rfl
  show _ ∧ _
  rw [size1] at at1 ⊢
  exact ⟨⟨_, at1, rfl⟩, next _ at1 (Heap.get?_push_of_some _ at0) fun b o z => Heap.get?_push_of_some _ (Heap.get?_push_of_some _ z)⟩
end PySem
namespace Mi
open PySem L2

/-- the tuple at a, each item in a new pair with its place -/
def ItE (K : PySem.W.Frag) (a : Addr) : It :=
  ⟨fun i H => ∃ (xs : List V) (x : V), SqT K H a xs ∧ xs[i]? = some x, fun i H v H' => ∃ T x, v = .ref T ∧ H T = none ∧ H' = upd H T (.tup [.int (i : Nat), x]) ∧ ∀ xs, SqT K H a xs → xs[i]? = some x, fun i H => ∃ xs : List V, SqT K H a xs ∧ xs.length = i⟩
theorem turn_E {P : Program} {w : World} {K : PySem.W.Frag} {elts : List Expr} {kk : Nat} {tpos : Pos} (a e it : Addr) :
    Turn P w K (.Tuple elts kk tpos) (ItE K a) [e, it] e (fun i h => (∃ old, IsEnum h e it ((i : Nat) : Int) old) ∧ h.IsTupleIter it a i ∧ e ≠ it) where
  mem := List.mem_cons_self
  obj := fun i h ⟨⟨old, he⟩, ⟨o, ho, _, hd⟩, _⟩ b hb => by
    rcases List.mem_cons.mp hb with z | z
    · rw [z]; exact ⟨_, he, fun v q => nomatch q⟩
    · rw [List.mem_singleton.mp z]; exact ⟨o, ho, fun v q => by rw [hd] at q; cases q⟩
  keep := fun i h h' ⟨⟨old, he⟩, hi, hne⟩ k => ⟨⟨old, k e (List.mem_cons_self) _ he⟩, hi.at fun o q => k it (List.mem_cons_of_mem _ (List.mem_singleton.mpr rfl)) o q, hne⟩
  item := fun X hP hw hK hc i pins s σ H E I hf ⟨⟨old, he⟩, hit, hne⟩ ⟨xs, x, hq, hx⟩ => by
    subst hP hw hK
    obtain ⟨its, rv, pt, _⟩ := I.tuple hq
    obtain ⟨u, hu, ru⟩ := rv.get hx
    have le : e < s.heap.objs.size := Heap.lt_size he
    have li : it < s.heap.objs.size := by obtain ⟨_, q, _⟩ := hit; exact Heap.lt_size q
    have tT : s.heap.IsTuple a its.toArray := pt
    have hat : a ≠ it := fun z => by
      obtain ⟨o1, g1, c1, _⟩ := tT
      obtain ⟨o2, g2, c2, _⟩ := hit
      rw [z, g2] at g1
      cases g1
      rw [c2] at c1
      exact absurd c1 (by simp)
    have hae : a ≠ e := fun z => by
      obtain ⟨o1, g1, c1, _⟩ := tT
      rw [z, he] at g1
      cases g1
      exact absurd c1 (by simp)
    have ilt : i < its.toArray.size := by
      have := (List.getElem?_eq_some_iff.mp hu).1
      simpa using this
    refine wpAny_pyNext_enum_itemC (Draws.tuple (A := X.A.in1) (I.ok.hd hc) it a hat its.toArray) he ⟨hit, tT⟩ ilt hne (by simp [hne, hae.symm]) fun y h' tk hy ho st' hT _ hk => ?_
    have ey : y = u := by
      have z : its.toArray[i]? = some u := by simpa using hu
      have z2 : its.toArray[i]? = some y := hy
      rw [z] at z2
      cases z2
      rfl
    subst ey
    refine ⟨_, rfl, wpAny_letOwnedTupleGo_enum (s := { s with heap := h', toks := tk + 1 }) ho fun h'' he'' sb => ?_⟩
    have atT : h''.get? s.heap.objs.size = some { cls := .type "tuple", data := .seq #[.int i tk, y] } := (sb.2 _ (Nat.ne_of_gt le)).trans hT
    have new : ObjOk X.prog X.w (upd H s.heap.objs.size (.tup [.int (i : Nat), x])) h'' s.heap.objs.size (.tup [.int (i : Nat), x]) :=
      ⟨(by decide : 2 ≤ sizeLine), [.int i tk, y], .cons ⟨_, rfl⟩ (.cons ru .nil), ⟨_, atT, rfl, _, rfl⟩⟩
    have I1 : L2.Inv X pins σ (upd H s.heap.objs.size (.tup [.int (i : Nat), x])) { s with heap := h'', toks := tk + 1 } :=
      I.turnedNew (ch := [e, it]) (fun b ob hb q => (sb.2 b fun z => hb (by simp [z])).trans (hk b ob (fun z => hb (by simp [z])) (fun z => hb (by simp [z])) q)) hf (Nat.le_refl _) new
    refine ⟨.ref s.heap.objs.size, _, I1, rfl, ⟨_, x, rfl, I.hok.fresh (Nat.le_refl _), rfl, fun ys hy => by rw [I.tuple_inj hy hq]; exact hx⟩, ⟨⟨y, ?_⟩, st'.1.at fun o q => (sb.2 it (Ne.symm hne)).trans q, hne⟩, fun b hb => ?_⟩
    · have e1 : ((i + 1 : Nat) : Int) = (i : Int) + 1 := by omega
      rw [e1]; exact he''
    · have lb : b < s.heap.objs.size := by
        rcases List.mem_cons.mp hb with z | z
        · rw [z]; exact le
        · rw [List.mem_singleton.mp z]; exact li
      rw [upd_ne (Nat.ne_of_lt lb)]
      exact (hf b hb).1
  done := fun X hP hw hK hc i pins s σ H E I hf ⟨⟨old, he⟩, hit, hne⟩ ⟨xs, hq, hx⟩ => by
    subst hP hw hK
    obtain ⟨its, rv, pt, _⟩ := I.tuple hq
    have tT : s.heap.IsTuple a its.toArray := pt
    have hat : a ≠ it := fun z => by
      obtain ⟨o1, g1, c1, _⟩ := tT
      obtain ⟨o2, g2, c2, _⟩ := hit
      rw [z, g2] at g1
      cases g1
      rw [c2] at c1
      exact absurd c1 (by simp)
    have hmem : it ∈ [e, it] := List.mem_cons_of_mem _ (List.mem_singleton.mpr rfl)
    have en : i = its.toArray.size := by
      have := rv.length
      simp only [List.size_toArray]
      omega
    subst en
    exact wpAny_pyNext_enum_endD (Draws.tuple (A := X.A.in1) (I.ok.hd hc) it a hat its.toArray) he ⟨hit, tT⟩ fun h' eb => ⟨rfl, I.turnedL (ch := [it]) (t' := s.toks) (fun b o hb q => eb b o (fun z => hb (by simp [z])) q) fun b hb => by
      rw [List.mem_singleton.mp hb]
      exact hf it hmem⟩
  self := fun A i s Q E ⟨⟨_, he⟩, _⟩ h => wpAny_pyIter_enum he h
def iE (K : PySem.W.Frag) (ta : TA) : TI := fun σ H R => ta σ H fun vs H1 => ∃ a xs, vs = [.ref a] ∧ SqT K H1 a xs ∧ R (ItE K a) H1
theorem pi_E {X : Cx} {e : Expr} {ta : TA} {p pos tpos : Pos} {elts : List Expr} {kk : Nat} (hg : Gl X "enumerate") (hm : X.mg "enumerate" = none) (ha : PA X [e] ta) (hs : starEach [e] X.env = [(false, eval e X.env)] := by rfl) :
    PI X (.Tuple elts kk tpos) (.Call (.Name "enumerate" p) [e] [] pos) (iE X.K ta) := by
  refine ⟨fun pins s σ H R I h => PyProof.Rows.Call_ (ld_blt I hg hm PyProof.Rows.boot_enumerate (PyProof.Rows.callWith_type1 (thn (ha.run pos pins s σ H _ I h) fun us s1 hq => ?_) hs rfl))⟩
  obtain ⟨vs, H1, I1, r1, a, xs, rfl, hx, q⟩ := hq
  obtain ⟨u, rfl, ru⟩ := r1.one
  cases ru
  obtain ⟨its, rv, pt, _⟩ := I1.tuple hx
  refine enum_call (begins_tuple a its.toArray) (show s1.heap.IsTuple a its.toArray from pt) fun h' he hi hk => wpAny_pyIter_enum he ?_
  refine ⟨s1.heap.objs.size + 1, [s1.heap.objs.size + 1, s1.heap.objs.size], _, _, H1, rfl, I1.kept (t' := s1.toks) hk, turn_E a _ s1.heap.objs.size, ⟨⟨.none, he⟩, ⟨_, hi, rfl, rfl⟩, Nat.succ_ne_self _⟩, fun b hb => ?_, q⟩
  have le : s1.heap.objs.size ≤ b := by
    rcases List.mem_cons.mp hb with z | z
    · rw [z]; exact Nat.le_succ _
    · rw [List.mem_singleton.mp z]; exact Nat.le_refl _
  exact I1.fpOk le (I1.hok.fresh le)
/-- each item with its place -/
def withIx (ds : List PyData) : List PyData := ds.zipIdx.map fun p => .tuple [.int (p.2 : Int), p.1]
def mEnum {T : Type} (f : ME T) : Env → T → Option (List PyData × T) := fun ρ t => match mItems f ρ t with
  | some (ds, t') => some (withIx ds, t')
  | none => none
theorem withIx_at {ds : List PyData} {i : Nat} {d : PyData} (h : (withIx ds)[i]? = some d) : ∃ x, ds[i]? = some x ∧ d = .tuple [.int (i : Int), x] := by
  unfold withIx at h
  rw [List.getElem?_map, List.getElem?_zipIdx] at h
  cases e : ds[i]? with
  | none => rw [e] at h; cases h
  | some x =>
    rw [e] at h
    cases h
    exact ⟨x, rfl, by simp⟩
theorem withIx_len (ds : List PyData) : (withIx ds).length = ds.length := by simp [withIx]
section
variable {Γ : Gm} {X : Cx} {a : Expr} {pos p : Pos} {fa : ME Γ.T}
theorem pi_enumD {elts : List Expr} {kk : Nat} {tpos : Pos} (hK : X.K = Γ.K) (hg : Gl X "enumerate") (hm : X.mg "enumerate" = none) (h : PE X a (den Γ fa)) (hs : starEach [a] X.env = [(false, eval a X.env)] := by rfl) :
    PI X (.Tuple elts kk tpos) (.Call (.Name "enumerate" p) [a] [] pos) (denI Γ (mEnum fa)) := pi_w (pi_or (pi_enum hg hm (pa_cons h pa_nil hs) hs) (pi_E hg hm (pa_cons h pa_nil hs) hs)) fun σ H Rr => by
  rintro ⟨F, ρ, t, items, t', R, e, q⟩
  unfold mEnum at e
  split at e
  · rename_i ds t1 e0
    cases e
    obtain ⟨r, d, e1, e2, hv⟩ := items_of e0
    have fin : ∀ {F' H' : Hp} {t2 : Γ.T} {i : Nat} {x : PyData} {y : V}, Fin Γ F' H' t2 → Dq Γ.K F' y x → ∀ T, H' T = none → ∃ F'', Ext [] F' H' F'' (upd H' T (.tup [.int (i : Nat), y])) ∧ Dq Γ.K F'' (.ref T) (.tuple [.int (i : Int), x]) := fun {F' H' t2 i x y} R' k T hT =>
      ⟨_, Ext.keep R'.ex hT, .tup (.of upd_same) (.cons (.int _) (.cons (k.mono (Ext.keep (S := []) R'.ex hT).f) .nil))⟩
    cases d with
    | list es =>
      refine .inl ⟨F, ρ, t, r, _, R, e1, fun v F1 H1 R1 x1 k1 => ?_⟩
      obtain ⟨q2, vs2, rfl, k2, hq2⟩ := sq_of R1.ex (stays (Same.refl F1) R1.toFin (hv F1 H1 σ v R1 k1) R1.toFin) e2
      rcases hq2 with ⟨_, hq2⟩ | ⟨⟨es2, z⟩, _⟩
      · rw [hK]
        refine ⟨q2, vs2, rfl, hq2, q F1 H1 _ R1 x1 fun i F' H' t2 s R' => ?_⟩
        obtain ⟨q3, vs3, y3, k3, hq3⟩ := sq_of R'.ex (stays s R' (hv F1 H1 σ _ R1 k1) R1.toFin) e2
        cases y3
        rcases hq3 with ⟨_, hq3⟩ | ⟨⟨es3, z⟩, _⟩
        · refine ⟨fun x hx => ?_, fun hi => ⟨vs3, hq3, by rw [k3.length]; rw [withIx_len] at hi; exact Nat.le_of_eq hi⟩⟩
          obtain ⟨x0, hx0, rfl⟩ := withIx_at hx
          obtain ⟨y, hy, ky⟩ := k3.get hx0
          refine ⟨⟨vs3, y, hq3, hy⟩, fun x' H'' yl => ?_⟩
          obtain ⟨T, y2, rfl, hT, rfl, yl⟩ := yl
          have := yl _ hq3
          rw [hy] at this
          cases this
          exact fin R' ky T hT
        · cases z
      · cases z
    | tuple es =>
      refine .inr ⟨F, ρ, t, r, _, R, e1, fun v F1 H1 R1 x1 k1 => ?_⟩
      obtain ⟨q2, vs2, rfl, k2, hq2⟩ := sq_of R1.ex (stays (Same.refl F1) R1.toFin (hv F1 H1 σ v R1 k1) R1.toFin) e2
      rcases hq2 with ⟨⟨es2, z⟩, _⟩ | ⟨_, hq2⟩
      · cases z
      · rw [hK]
        refine ⟨q2, vs2, rfl, hq2, q F1 H1 _ R1 x1 fun i F' H' t2 s R' => ?_⟩
        obtain ⟨q3, vs3, y3, k3, hq3⟩ := sq_of R'.ex (stays s R' (hv F1 H1 σ _ R1 k1) R1.toFin) e2
        cases y3
        rcases hq3 with ⟨⟨es3, z⟩, _⟩ | ⟨_, hq3⟩
        · cases z
        · refine ⟨fun x hx => ?_, fun hi => ⟨vs3, hq3, by rw [k3.length]; rw [withIx_len] at hi; exact hi⟩⟩
          obtain ⟨x0, hx0, rfl⟩ := withIx_at hx
          obtain ⟨y, hy, ky⟩ := k3.get hx0
          refine ⟨⟨vs3, y, hq3, hy⟩, fun x' H'' yl => ?_⟩
          obtain ⟨T, y2, rfl, hT, rfl, yl⟩ := yl
          have := yl _ hq3
          rw [hy] at this
          cases this
          exact fin R' ky T hT
    | none => cases e2
    | bool b => cases e2
    | int i => cases e2
    | str x => cases e2
    | dict es => cases e2
  · cases e
end
end Mi
/-! repr of data. -/
namespace Mi
open PySem L2

mutual
def hasList : PyData → Bool
  | .list _ => true
  | .tuple xs => hasListA xs
  | .dict es => hasListK es
  | _ => false
def hasListA : List PyData → Bool
  | [] => false
  | x :: xs => hasList x || hasListA xs
def hasListK : List (PyData × PyData) → Bool
  | [] => false
  | x :: xs => hasList x.2 || hasListK xs
end
section
variable {X : Cx} {pins : List (Addr × Obj)} {σ : L2.St} {H F : Hp} {s : Shared}
theorem key_reads {k : Key} {u : Value} (h : keyIs k u = true) : ∃ as, Reads s.heap u (kD k) as ∧ as = [] := by
  rcases keyIs_shape h with ⟨i, t, rfl, rfl⟩ | ⟨x, t, rfl, rfl⟩
  · exact ⟨_, Reads.int i t, rfl⟩
  · exact ⟨_, Reads.str x t, rfl⟩
mutual
theorem Dq.rds (I : L2.Inv X pins σ H s) (sm : Same F H) : ∀ (d : PyData) (v : V) (u : Value), Dq X.K F v d → RelV v u → ∃ as, Reads s.heap u d as ∧ (hasList d = false → sysModules ∉ as)
  | .none, _, _, h, r => by
    cases h
    cases r
    exact ⟨_, Reads.none, fun _ => by simp⟩
  | .bool b, _, _, h, r => by
    cases h
    cases r
    exact ⟨_, Reads.bool b, fun _ => by simp⟩
  | .int i, _, _, h, r => by
    cases h
    obtain ⟨t, rfl⟩ := r
    exact ⟨_, Reads.int i t, fun _ => by simp⟩
  | .str x, _, _, h, r => by
    cases h
    obtain ⟨t, rfl⟩ := r
    exact ⟨_, Reads.str x t, fun _ => by simp⟩
  | .list ds, _, _, h, r => by
    cases h with
    | lst hs ha =>
      cases r
      obtain ⟨its, rv, ⟨o, n, ho, hc, _, hd⟩, _⟩ := I.list (.of (sm _ _ hs))
      obtain ⟨as, hr, _⟩ := DqA.rds I sm ds _ its ha rv
      exact ⟨_, Reads.list ho hc hd (by simpa using hr), fun z => by simp [hasList] at z⟩
  | .tuple ds, _, _, h, r => by
    cases h with
    | tup hs ha =>
      cases r
      obtain ⟨its, rv, ⟨o, ho, hc, n, hd⟩, _⟩ := I.tuple (same_t sm hs)
      obtain ⟨as, hr, hx⟩ := DqA.rds I sm ds _ its ha rv
      exact ⟨_, Reads.tuple ho hc hd (by simpa using hr), fun z => hx (by simpa [hasList] using z)⟩
  | .dict es, _, _, h, r => by
    cases h with
    | dct hs ha =>
      cases r
      obtain ⟨_, hne, vs, kv, o, ents, ep, ho, hex, hd, hk, hp, _⟩ := I.hok _ _ (sm _ _ hs)
      obtain ⟨as, bs, h1, h2, h3, h4⟩ := DqK.rds I sm es _ vs ents.toList ha kv hp
      exact ⟨_, Reads.dict ho hex.1 hd h1 h2, fun z => by
        simp only [List.cons_append, List.mem_cons, List.mem_append, not_or]
        exact ⟨fun q => by rw [← q] at hne; simp at hne, h3, h4 (by simpa [hasList] using z)⟩⟩
theorem DqA.rds (I : L2.Inv X pins σ H s) (sm : Same F H) : ∀ (ds : List PyData) (vs : List V) (us : List Value), DqA X.K F vs ds → Vals vs us → ∃ as, ReadsAll s.heap us ds as ∧ (hasListA ds = false → sysModules ∉ as)
  | [], _, _, h, r => by
    cases h
    cases r
    exact ⟨_, ReadsAll.nil, fun _ => by simp⟩
  | d :: ds, _, _, h, r => by
    cases h with
    | cons h1 h2 =>
      cases r with
      | cons r1 r2 =>
        obtain ⟨as, q1, z1⟩ := Dq.rds I sm d _ _ h1 r1
        obtain ⟨bs, q2, z2⟩ := DqA.rds I sm ds _ _ h2 r2
        exact ⟨_, ReadsAll.cons q1 q2, fun z => by
          simp only [hasListA, Bool.or_eq_false_iff] at z
          simp only [List.mem_append, not_or]
          exact ⟨z1 z.1, z2 z.2⟩⟩
theorem DqK.rds (I : L2.Inv X pins σ H s) (sm : Same F H) : ∀ (es : List (PyData × PyData)) (kvs : List (Key × V)) (vs : List (Key × Value)) (ents : List DictEntry), DqK X.K F kvs es → KV kvs vs → Pairs (mixKind X.prog X.w) ents vs →
    ∃ as bs, ReadsAll s.heap (ents.map (·.key)) (es.map (·.1)) as ∧ ReadsAll s.heap (ents.map (·.val)) (es.map (·.2)) bs ∧ sysModules ∉ as ∧ (hasListK es = false → sysModules ∉ bs)
  | [], _, _, _, h, r, p => by
    cases h
    cases r
    cases p
    exact ⟨_, _, ReadsAll.nil, ReadsAll.nil, by simp, fun _ => by simp⟩
  | e :: es, _, _, _, h, r, p => by
    cases h with
    | cons h1 h2 =>
      cases r with
      | cons r1 r2 =>
        cases p with
        | cons p1 p2 p3 =>
          obtain ⟨as, bs, q1, q2, z1, z2⟩ := DqK.rds I sm es _ _ _ h2 r2 p3
          obtain ⟨cs, y1, y2⟩ := Dq.rds I sm _ _ _ h1 r1.2
          obtain ⟨ks, g1, g2⟩ := key_reads (s := s) (show keyIs _ _ = true from p1)
          refine ⟨_, _, ReadsAll.cons (r1.1 ▸ g1) q1, ReadsAll.cons (p2 ▸ y1) q2, ?_, fun z => ?_⟩
          · subst g2
            simpa using z1
          · simp only [hasListK, Bool.or_eq_false_iff] at z
            simp only [List.mem_append, not_or]
            exact ⟨y2 z.1, z2 z.2⟩
end
end
def reprD : List PyData → Option PyData
  | [d] => if d.showable = true ∧ d.shown.length ≤ sizeLine ∧ d.depth ≤ 60 ∧ (d.hasDict = true → hasList d = false) then some (.str d.shown) else none
  | _ => none
/-- what is lent reads too -/
theorem Dv.rds {X : Cx} {pins : List (Addr × Obj)} {σ : L2.St} {H F : Hp} {s : Shared} {d : PyData} {v : V} {u : Value} (I : L2.Inv X pins σ H s) (sm : Same F H) (h : Dv X.K F H v d) (r : RelV v u) : ∃ as, Reads s.heap u d as ∧ (hasList d = false → sysModules ∉ as) := by
  cases d with
  | none => cases (show v = _ from h); exact Dq.rds (F := F) I sm _ _ _ .non r
  | bool b => cases (show v = _ from h); exact Dq.rds (F := F) I sm _ _ _ (.bl b) r
  | int i => cases (show v = _ from h); exact Dq.rds (F := F) I sm _ _ _ (.int i) r
  | str x => cases (show v = _ from h); exact Dq.rds (F := F) I sm _ _ _ (.str x) r
  | list ds =>
    obtain ⟨a, vs, rfl, h1, k⟩ := h
    exact Dq.rds (F := H) I (Same.refl H) _ _ _ (.lst h1 (k.mono sm)) r
  | tuple ds =>
    obtain ⟨a, vs, rfl, h1, k⟩ := h
    exact Dq.rds I sm _ _ _ (.tup h1 k) r
  | dict es =>
    obtain ⟨a, vs, rfl, h1, k⟩ := h
    exact Dq.rds (F := H) I (Same.refl H) _ _ _ (.dct h1 (k.mono sm)) r
end Mi
/-! The tray: a dict of ints, and one list of ints in it. -/
namespace Mi
open PySem L2

structure Tr where
  far : List Int
  es : List (Str × Int)
def tget : List (Str × Int) → Str → Option Int
  | [], _ => none
  | (x, i) :: r, k => if x = k then some i else tget r k
def tput : List (Str × Int) → Str → Int → List (Str × Int)
  | [], _, _ => []
  | (x, i) :: r, k, v => (if x = k then (x, v) else (x, i)) :: tput r k v
def entE (e : Str × Int) : Key × V := (.inr e.1, .int e.2)
def ents (fk : Str) (g : Addr) (es : List (Str × Int)) : List (Key × V) := (.inr fk, .ref g) :: es.map entE
def TrAt (fk : Str) (ta g : Addr) (t : Tr) (H : Hp) : Prop := H ta = some (.dK (ents fk g t.es)) ∧ H g = some (.lst (t.far.map .int))
theorem tget_valV (k : Str) : ∀ es : List (Str × Int), valV (es.map entE) (Sum.inr k : Key) = (tget es k).map V.int
  | [] => rfl
  | (x, i) :: r => by
    rw [List.map_cons]
    unfold tget
    by_cases h : x = k
    · rw [if_pos h]
      exact valV_pos (p := entE (x, i)) (by show (Sum.inr x : Key) = _; rw [h])
    · rw [if_neg h, ← tget_valV k r]
      exact valV_neg (p := entE (x, i)) (fun z => h (Sum.inr.inj z))
theorem tput_putK (k : Str) (v : Int) : ∀ es : List (Str × Int), (es.map entE).map (fun kv => if kv.1 = (Sum.inr k : Key) then (kv.1, V.int v) else kv) = (tput es k v).map entE
  | [] => rfl
  | (x, i) :: r => by
    rw [List.map_cons, List.map_cons, tput_putK k v r, show tput ((x, i) :: r) k v = (if x = k then (x, v) else (x, i)) :: tput r k v from rfl, List.map_cons]
    by_cases h : x = k
    · rw [if_pos h]
      have : (entE (x, i)).1 = (Sum.inr k : Key) := by show (Sum.inr x : Key) = _; rw [h]
      rw [if_pos this]
      rfl
    · rw [if_neg h]
      have : ¬ (entE (x, i)).1 = (Sum.inr k : Key) := fun z => h (Sum.inr.inj z)
      rw [if_neg this]
theorem ents_get {fk k : Str} {g : Addr} {es : List (Str × Int)} {i : Int} (h : fk ≠ k) (e : tget es k = some i) : valV (ents fk g es) (Sum.inr k : Key) = some (.int i) := by
  unfold ents
  rw [valV_neg (p := ((Sum.inr fk : Key), V.ref g)) (fun z => h (Sum.inr.inj z)), tget_valV, e]
  rfl
theorem ents_far {fk : Str} {g : Addr} {es : List (Str × Int)} : valV (ents fk g es) (Sum.inr fk : Key) = some (.ref g) := valV_pos rfl
theorem ents_put {fk k : Str} {g : Addr} {es : List (Str × Int)} {i v : Int} (h : fk ≠ k) (e : tget es k = some i) : putK (ents fk g es) (Sum.inr k : Key) (.int v) = ents fk g (tput es k v) := by
  unfold putK
  have ha : ((ents fk g es).any fun kv => decide (kv.1 = (Sum.inr k : Key))) = true := by rw [valV_any, ents_get h e]; rfl
  rw [if_pos ha]
  unfold ents
  rw [List.map_cons, tput_putK]
  have : ¬ (Sum.inr fk : Key) = Sum.inr k := fun z => h (Sum.inr.inj z)
  rw [if_neg this]
def Gt (w : World) (K : PySem.W.Frag) (fk : Str) (ta g : Addr) (F H : Hp) : Gm :=
  { K := K, w := w, S := [ta, g], T := Tr, In := TrAt fk ta g, loc := fun t H H' h q => ⟨by rw [h ta (by simp)]; exact q.1, by rw [h g (by simp)]; exact q.2⟩,
    has := fun t H a ha q => by
      rcases List.mem_cons.mp ha with rfl | ha
      · exact ⟨_, q.1⟩
      · cases List.mem_singleton.mp ha
        exact ⟨_, q.2⟩
    F0 := F, H0 := H, ta := fun k => match k with | 0 => .ref ta | _ => .ref g }
/-- the tray's own objects change -/
theorem Rep.tray {Γ : Gm} {F H : Hp} {σ : L2.St} {ρ : Env} {t t' : Γ.T} {a : Addr} {o : HO} (R : Rep Γ F H σ ρ t) (ha : a ∈ Γ.S) (inn : Γ.In t' (upd H a o)) : Rep Γ F (upd H a o) σ ρ t' ∧ Ext Γ.S F H F (upd H a o) := by
  have x : Ext Γ.S F H F (upd H a o) := ⟨Same.refl F, fun b u q => by rw [upd_ne (ne_of_none q (R.sF a ha))]; exact R.ex b u q, fun b u hb q => by rw [upd_ne fun z : b = a => hb (z ▸ ha)]; exact q, fun _ _ q _ => q⟩
  exact ⟨R.ext x inn R.sF, x⟩
section
variable {K : PySem.W.Frag} {fk : Str} {ta g : Addr} {F0 H0 : Hp} {X : Cx} {o a b : Expr} {fo fa : ME Tr} {pos p2 : Pos} {j : Nat} {k : Str}
theorem TrAt.ne {t : Tr} {H : Hp} (h : TrAt fk ta g t H) : ta ≠ g := fun z => by
  obtain ⟨h1, h2⟩ := h
  rw [← z, h1] at h2
  cases h2
theorem TrAt.setT {t : Tr} {H : Hp} {es : List (Str × Int)} (h : TrAt fk ta g t H) : TrAt fk ta g { t with es := es } (upd H ta (.dK (ents fk g es))) := ⟨upd_same, by rw [upd_ne h.ne.symm]; exact h.2⟩
theorem TrAt.setF {t : Tr} {H : Hp} {far : List Int} (h : TrAt fk ta g t H) : TrAt fk ta g { t with far := far } (upd H g (.lst (far.map .int))) := ⟨by rw [upd_ne h.ne]; exact h.1, upd_same⟩

/-- tray['far'] -/
def mFar (fo : ME Tr) : ME Tr := fun ρ t => match fo ρ t with
  | some (.tray 0, t') => some (.tray 1, t')
  | _ => none
theorem pe_far (hu : X.A.units + 1 < cLine) (ho : PE X o (den (Gt w K fk ta g F0 H0) fo)) : PE X (.Subscript o (.Constant (.str fk) j p2) pos) (den (Gt w K fk ta g F0 H0) (mFar fo)) :=
  pe_w (pe_dget hu ho pe_str (by intro _ _; rfl)) fun σ H Q => by
    rintro ⟨F, ρ, t, r, t', R, e, q⟩
    unfold mFar at e
    split at e
    · rename_i t1 e1
      cases e
      refine ⟨F, ρ, t, _, _, R, e1, fun v F1 H1 R1 x1 k1 => ?_⟩
      cases (show v = V.ref ta from k1)
      exact ⟨ta, .ref g, rfl, .inl ⟨_, Sum.inr fk, .inl R1.inn.1, rfl, ents_far.symm⟩, q _ F1 H1 R1 x1 rfl⟩
    · cases e
/-- tray['turn'] -/
def mTget (fk k : Str) (fo : ME Tr) : ME Tr := fun ρ t => match fo ρ t with
  | some (.tray 0, t') => if fk = k then none else match tget t'.es k with
    | some i => some (.fro (.int i), t')
    | none => none
  | _ => none
theorem pe_tget (hu : X.A.units + 1 < cLine) (ho : PE X o (den (Gt w K fk ta g F0 H0) fo)) : PE X (.Subscript o (.Constant (.str k) j p2) pos) (den (Gt w K fk ta g F0 H0) (mTget fk k fo)) :=
  pe_w (pe_dget hu ho pe_str (by intro _ _; rfl)) fun σ H Q => by
    rintro ⟨F, ρ, t, r, t', R, e, q⟩
    unfold mTget at e
    split at e
    · rename_i t1 e1
      split at e
      · cases e
      · rename_i hne
        split at e
        · rename_i i e2
          cases e
          refine ⟨F, ρ, t, _, _, R, e1, fun v F1 H1 R1 x1 k1 => ?_⟩
          cases (show v = V.ref ta from k1)
          exact ⟨ta, .int i, rfl, .inl ⟨_, Sum.inr k, .inl R1.inn.1, rfl, (ents_get hne e2).symm⟩, q _ F1 H1 R1 x1 (.int i)⟩
        · cases e
    · cases e
/-- tray['turn'] = e -/
def mTput (fk k : Str) (fo fa : ME Tr) : MS Tr := fun ρ t => match fa ρ t with
  | some (.fro (.int i), t1) => match fo ρ t1 with
    | some (.tray 0, t2) => if fk = k then none else if (tget t2.es k).isSome = true ∧ t2.es.length + 1 < sizeLine then some (.nx ρ, { t2 with es := tput t2.es k i }) else none
    | _ => none
  | _ => none
theorem ps_tput (hu : X.A.units + 1 < cLine) (ho : PE X o (den (Gt w K fk ta g F0 H0) fo)) (ha : PE X a (den (Gt w K fk ta g F0 H0) fa)) {q2 : Pos}
    (hs : swapsWith a (some (.Subscript o (.Constant (.str k) j p2) q2)) pos.line X.env = pure false := by rfl) : PS X (.Assign [.Subscript o (.Constant (.str k) j p2) q2] a pos) (denS (Gt w K fk ta g F0 H0) (mTput fk k fo fa)) :=
  ps_w (ps_dput hu ho pe_str ha hs) fun D σ H => by
    rintro ⟨F, ρ, t, r, t', R, e, q⟩
    unfold mTput at e
    split at e
    · rename_i i t1 e1
      split at e
      · rename_i t2 e2
        split at e
        · cases e
        · rename_i hne
          split at e
          · rename_i hz
            cases e
            refine ⟨F, ρ, t, _, _, R, e1, fun v F1 H1 R1 x1 k1 => ⟨F1, ρ, _, _, _, R1, e2, fun w F2 H2 R2 x2 k2 => ?_⟩⟩
            cases (show w = V.ref ta from k2)
            cases (show Dq K F1 v (.int i) from k1)
            obtain ⟨i0, hi0⟩ := Option.isSome_iff_exists.mp hz.1
            refine ⟨ta, _, rfl, DPut.k (k := Sum.inr k) R2.inn.1 (by unfold ents; rw [List.length_cons, List.length_map]; exact hz.2), ?_⟩
            rw [ents_put hne hi0]
            obtain ⟨R3, x3⟩ := R2.tray (a := ta) (List.mem_cons_self ..) (TrAt.setT (es := tput t2.es k i) R2.inn)
            exact q σ F2 _ R3 ((x1.f.trans x2.f).trans x3.f)
          · cases e
      · cases e
    · cases e
/-- far != [] -/
def mFarNe (fo : ME Tr) : Env → Tr → Option (Bool × Tr) := fun ρ t => match fo ρ t with
  | some (.tray 1, t') => some (!t'.far.isEmpty, t')
  | _ => none
theorem dqa_ints {F : Hp} : ∀ zs : List Int, DqA K F (zs.map .int) (zs.map .int)
  | [] => .nil
  | z :: r => .cons (.int z) (dqa_ints r)
theorem ne_nil (zs : List PyData) : neD (.list zs) (.list []) = some (.bool (!zs.isEmpty)) := by
  cases zs with
  | nil => rfl
  | cons z r => rfl
theorem pt_farNe (hu : X.A.units + 64 < cLine) (hK : X.K = K) (ho : PE X o (den (Gt w K fk ta g F0 H0) fo)) : PT X (.Compare o [.NotEq] [.List [] p2] pos) (denT (Gt w K fk ta g F0 H0) (mFarNe fo)) :=
  pt_w (pt_cmpR (op_neDD hu) ho (pe_lstD (Γ := Gt w K fk ta g F0 H0) pa_nilD) rfl) fun σ H Q => by
    rintro ⟨F, ρ, t, r, t', R, e, q⟩
    unfold mFarNe at e
    split at e
    · rename_i t1 e1
      cases e
      refine ⟨F, ρ, t, _, _, R, e1, fun v F1 H1 R1 x1 k1 => ⟨F1, ρ, _, .list [], _, R1, rfl, fun p F2 H2 R2 x2 fr => ?_⟩⟩
      cases (show v = V.ref g from k1)
      rw [hK]
      refine ⟨F2, .list ((Tr.far t').map .int), .list [], _, R2.ex, ⟨g, _, rfl, R2.inn.2, dqa_ints _⟩, fr.own.dv, ne_nil _, fun u F3 H3 x3 k3 => ?_⟩
      cases k3
      refine ⟨_, rfl, ?_⟩
      rw [show ((Tr.far t').map PyData.int).isEmpty = (Tr.far t').isEmpty from by cases Tr.far t' <;> rfl]
      exact q F3 H3 (R2.ext0 x3) ((x1.then x2 R2).then x3.wide (R2.ext0 x3))
    · cases e
/-- far.pop(0) -/
def mPop0 (fo : ME Tr) : ME Tr := fun ρ t => match fo ρ t with
  | some (.tray 1, t') => match t'.far with
    | x :: r => some (.fro (.int x), { t' with far := r })
    | [] => none
  | _ => none
variable {apos cpos : Pos}
theorem pe_pop0 (hK : X.K = K) (ho : PE X o (den (Gt w K fk ta g F0 H0) fo)) (hs1 : starEach [.Constant (.int 0) j p2] X.env = (false, eval (.Constant (.int 0) j p2) X.env) :: starEach [] X.env := by rfl) (hbase : attributeBase o "pop" X.env (eval o X.env) = eval o X.env := by rfl)
    (hfew : ((backTo cpos (starEach [.Constant (.int 0) j p2] X.env)).all (fun x => !x.1) && (backToKw cpos (keywordEach [] X.env)).all (fun x => x.1.isSome) && decide ([Expr.Constant (.int 0) j p2].length + ([] : List Keyword).length + (if ([] : List Keyword).isEmpty then 0 else 1) < 30)) = true := by rfl)
    (hline : (apos.endLine == cpos.line) = true := by rfl) (hplain : (backTo cpos (starEach [] X.env)).any (·.1) = false := by rfl) :
    PE X (.Call (.Attribute o "pop" apos) [.Constant (.int 0) j p2] [] cpos) (den (Gt w K fk ta g F0 H0) (mPop0 fo)) :=
  pe_w (pe_bm PySem.F.plainAttrs_list PySem.F.slot_list_pop PySem.F.type_list_pop mt_popAt ho (pa_cons pe_int pa_nil hs1) hbase hfew hline hs1 hplain) fun σ H Q => by
    rintro ⟨F, ρ, t, r, t', R, e, q⟩
    unfold mPop0 at e
    split at e
    · rename_i t1 e1
      split at e
      · rename_i x rest e2
        cases e
        refine ⟨F, ρ, t, _, _, R, e1, fun v F1 H1 R1 x1 k1 => ?_⟩
        cases (show v = V.ref g from k1)
        have hg := R1.inn.2
        rw [e2, List.map_cons] at hg
        obtain ⟨R3, x3⟩ := R1.tray (a := g) (by show g ∈ [ta, g]; simp) (TrAt.setF (far := rest) R1.inn)
        exact ⟨.inl ⟨rfl, _, .of hg⟩, g, _, 0, 0, _, rfl, rfl, hg, by decide, by decide, by simp [seqIndex?], rfl, q _ F1 _ R3 (x1.then x3 R3) (.int x)⟩
      · cases e
    · cases e
/-- far.insert(0, e) -/
def mIns0 (fo fa : ME Tr) : MS Tr := fun ρ t => match fo ρ t with
  | some (.tray 1, t1) => match fa ρ t1 with
    | some (.fro (.int x), t2) => if t2.far.length < sizeLine then some (.nx ρ, { t2 with far := x :: t2.far }) else none
    | _ => none
  | _ => none
theorem ps_ins0 (ho : PE X o (den (Gt w K fk ta g F0 H0) fo)) (ha : PE X a (den (Gt w K fk ta g F0 H0) fa)) (hs1 : starEach [.Constant (.int 0) j p2, a] X.env = (false, eval (.Constant (.int 0) j p2) X.env) :: starEach [a] X.env := by rfl) (hs2 : starEach [a] X.env = (false, eval a X.env) :: starEach [] X.env := by rfl)
    (hbase : attributeBase o "insert" X.env (eval o X.env) = eval o X.env := by rfl)
    (hfew : ((backTo cpos (starEach [.Constant (.int 0) j p2, a] X.env)).all (fun x => !x.1) && (backToKw cpos (keywordEach [] X.env)).all (fun x => x.1.isSome) && decide ([Expr.Constant (.int 0) j p2, a].length + ([] : List Keyword).length + (if ([] : List Keyword).isEmpty then 0 else 1) < 30)) = true := by rfl)
    (hline : (apos.endLine == cpos.line) = true := by rfl) (hplain : (backTo cpos (starEach [a] X.env)).any (·.1) = false := by rfl)
    (hs : swapsWith (.Call (.Attribute o "insert" apos) [.Constant (.int 0) j p2, a] [] cpos) none pos.line X.env = pure false := by rfl) :
    PS X (.Expr (.Call (.Attribute o "insert" apos) [.Constant (.int 0) j p2, a] [] cpos) pos) (denS (Gt w K fk ta g F0 H0) (mIns0 fo fa)) :=
  ps_w (ps_expr (pe_bm PySem.F.plainAttrs_list PySem.F.slot_list_insert PySem.F.type_list_insert mt_insert ho (pa_cons pe_int (pa_cons ha pa_nil hs2) hs1) hbase hfew hline hs1 hplain) hs) fun D σ H => by
    rintro ⟨F, ρ, t, r, t', R, e, q⟩
    unfold mIns0 at e
    split at e
    · rename_i t1 e1
      split at e
      · rename_i x t2 e2
        split at e
        · rename_i hz
          cases e
          refine ⟨F, ρ, t, _, _, R, e1, fun v F1 H1 R1 x1 k1 => ⟨?_, F1, ρ, _, _, _, R1, e2, fun w F2 H2 R2 x2 k2 => ?_⟩⟩
          · cases (show v = V.ref g from k1)
            exact .inl ⟨rfl, _, .of R1.inn.2⟩
          · cases (show v = V.ref g from k1)
            cases (show Dq K F2 w (.int x) from k2)
            obtain ⟨R3, x3⟩ := R2.tray (a := g) (by show g ∈ [ta, g]; simp) (TrAt.setF (far := x :: t2.far) R2.inn)
            exact ⟨g, _, 0, _, rfl, rfl, R2.inn.2, by rw [List.length_map]; exact hz, by decide, by decide, q σ F2 _ R3 ((x1.f.trans x2.f).trans x3.f)⟩
        · cases e
      · cases e
    · cases e
/-- far[0] -/
def mFarAt (fo fa : ME Tr) : ME Tr := fun ρ t => match fo ρ t with
  | some (.tray 1, t1) => match fa ρ t1 with
    | some (.fro (.int i), t2) => match atI t2.far i with
      | some x => some (.fro (.int x), t2)
      | none => none
    | _ => none
  | _ => none
/-- far[0] = e -/
def mFarPut (fo fi fa : ME Tr) : MS Tr := fun ρ t => match fa ρ t with
  | some (.fro (.int x), t1) => match fo ρ t1 with
    | some (.tray 1, t2) => match fi ρ t2 with
      | some (.fro (.int i), t3) => match ixN t3.far.length i with
        | some n => some (.nx ρ, { t3 with far := t3.far.set n x })
        | none => none
      | _ => none
    | _ => none
  | _ => none
variable {fi : ME Tr} {i : Expr} {q2 : Pos}
end
end Mi
/-! Dict displays; defs that take the tray; the law's end. -/
namespace Mi
open PySem L2

/-! ### dict displays with written keys -/
def mapD : List Key → List PyData → List (PyData × PyData)
  | k :: ks, d :: ds => (kD k, d) :: mapD ks ds
  | _, _ => []
theorem merge_new : ∀ (kvs acc : List (Key × V)), ((acc ++ kvs).map (·.1)).Nodup → mergeK acc kvs = acc ++ kvs
  | [], acc, _ => by rw [List.append_nil]; rfl
  | (k, v) :: r, acc, h => by
    have hp : putK acc k v = acc ++ [(k, v)] := by
      unfold putK
      have : (acc.any fun kv => decide (kv.1 = k)) = false := by
        rw [Bool.eq_false_iff]
        intro z
        obtain ⟨p, hp, hk⟩ := List.any_eq_true.mp z
        have hk := of_decide_eq_true hk
        rw [List.map_append, List.nodup_append] at h
        exact h.2.2 p.1 (List.mem_map_of_mem hp) k (by simp) hk
      rw [this]
      rfl
    have := merge_new r (acc ++ [(k, v)]) (by simpa using h)
    show mergeK (putK acc k v) r = _
    rw [hp, this]
    simp
theorem kD_ok {K : PySem.W.Frag} {F : Hp} : ∀ {ks : List Key} {vs : List V} {ds : List PyData}, ks.length = vs.length → DqA K F vs ds → DqK K F (ks.zip vs) (mapD ks ds)
  | [], [], _, _, .nil => .nil
  | k :: ks, _ :: _, _, h, .cons q r => .cons q (kD_ok (Nat.succ.inj h) r)
def mDict {T : Type} (ks : List Key) (g : Env → T → Option (List Rv × T)) : Env → T → Option (PyData × T) := fun ρ t => do
  let (rs, t1) ← g ρ t
  let ds ← kept rs
  if ds.length = ks.length ∧ ks.Nodup ∧ ks.length ≤ 15 then pure (.dict (mapD ks ds), t1) else none
/-- the values of a display -/
inductive VsOk (X : Cx) (Γ : Gm) : List Expr → (Env → Γ.T → Option (List Rv × Γ.T)) → List TE → Prop
  | nil : VsOk X Γ [] mNil []
  | cons {a : Expr} {es : List Expr} {f : ME Γ.T} {g : Env → Γ.T → Option (List Rv × Γ.T)} {ts : List TE} : PE X a (den Γ f) → VsOk X Γ es g ts → VsOk X Γ (a :: es) (mCons f g) (den Γ f :: ts)
def kTE : Key → TE
  | .inl i => tC (.int i)
  | .inr x => tC (.str x)
inductive KsOk (X : Cx) : List (Option Expr) → List Key → Prop
  | nil : KsOk X [] []
  | str {x : Str} {j : Nat} {p : Pos} {es : List (Option Expr)} {ks : List Key} : KsOk X es ks → KsOk X (some (.Constant (.str x) j p) :: es) (.inr x :: ks)
  | int {i : Int} {j : Nat} {p : Pos} {es : List (Option Expr)} {ks : List Key} : KsOk X es ks → KsOk X (some (.Constant (.int i) j p) :: es) (.inl i :: ks)
def trees : List Key → List TE → List (TE × TE)
  | k :: ks, t :: ts => (kTE k, t) :: trees ks ts
  | _, _ => []
section
variable {Γ : Gm} {X : Cx} {pos : Pos}
theorem pps_of {g : Env → Γ.T → Option (List Rv × Γ.T)} : ∀ {ke : List (Option Expr)} {ks : List Key} {es : List Expr} {ts : List TE}, KsOk X ke ks → VsOk X Γ es g ts → ke.length = es.length → PPs X pos ke es (trees ks ts) := by
  intro ke ks es ts hk
  induction hk generalizing es ts g with
  | nil =>
    intro hv hl
    cases hv with
    | nil => exact pps_nil
    | cons _ _ => cases hl
  | str hk ih =>
    intro hv hl
    cases hv with
    | nil => cases hl
    | cons h1 h2 => exact pps_cons pe_str h1 (ih h2 (Nat.succ.inj hl))
  | int hk ih =>
    intro hv hl
    cases hv with
    | nil => cases hl
    | cons h1 h2 => exact pps_cons pe_int h1 (ih h2 (Nat.succ.inj hl))
theorem kTE_c {k : Key} {σ : L2.St} {H : Hp} {Q : VK} (h : Q (kV k) H) : kTE k σ H Q := by
  cases k <;> exact h
theorem pairs_of {es : List Expr} {g : Env → Γ.T → Option (List Rv × Γ.T)} {ts : List TE} (hv : VsOk X Γ es g ts) : ∀ {ks : List Key} {F H : Hp} {σ : L2.St} {ρ : Env} {t t' : Γ.T} {rs : List Rv} {Q : List (V × V) → Hp → Prop}, Rep Γ F H σ ρ t → g ρ t = some (rs, t') → rs.length = ks.length →
    (∀ vs F' H', Rep Γ F' H' σ ρ t' → Ext Γ.S F H F' H' → RvsOk Γ F' σ vs rs → Q ((ks.map kV).zip vs) H') → tPairs (trees ks ts) σ H Q := by
  induction hv with
  | nil =>
    intro ks F H σ ρ t t' rs Q R e hl q
    cases e
    cases ks with
    | nil => exact q [] F H R (Ext.refl R.ex) .nil
    | cons _ _ => cases hl
  | cons h1 h2 ih =>
    intro ks F H σ ρ t t' rs Q R e hl q
    obtain ⟨⟨r1, t1⟩, e1, e⟩ := bind_some e
    obtain ⟨⟨rs2, t2⟩, e2, e⟩ := bind_some e
    cases e
    cases ks with
    | nil => cases hl
    | cons k ks =>
      refine kTE_c ⟨F, ρ, t, _, _, R, e1, fun v F1 H1 R1 x1 k1 => ih R1 e2 (Nat.succ.inj hl) fun vs F2 H2 R2 x2 k2 => ?_⟩
      exact q (v :: vs) F2 H2 R2 (x1.then x2 R2) (.cons (k1.mono x2.f) k2)
theorem VsOk.len {es : List Expr} {g : Env → Γ.T → Option (List Rv × Γ.T)} {ts : List TE} (h : VsOk X Γ es g ts) : es.length = ts.length := by
  induction h with
  | nil => rfl
  | cons _ _ ih => exact congrArg Nat.succ ih
theorem kept_len : ∀ {rs : List Rv} {ds : List PyData}, kept rs = some ds → rs.length = ds.length
  | [], _, e => by cases e; rfl
  | .fro d :: r, _, e => by
    unfold kept at e
    cases z : kept r with
    | none => rw [z] at e; cases e
    | some l => rw [z] at e; cases e; exact congrArg Nat.succ (kept_len z)
  | .loan _ :: _, _, e => by cases e
  | .tray _ :: _, _, e => by cases e
theorem RvsOk.len {F : Hp} {σ : L2.St} : ∀ {vs : List V} {rs : List Rv}, RvsOk Γ F σ vs rs → vs.length = rs.length
  | _, _, .nil => rfl
  | _, _, .cons _ k => congrArg Nat.succ (RvsOk.len k)
theorem pe_dictD {ke : List (Option Expr)} {ks : List Key} {es : List Expr} {ts : List TE} {g : Env → Γ.T → Option (List Rv × Γ.T)} (hk : KsOk X ke ks) (hv : VsOk X Γ es g ts) (hl : ke.length = es.length := by rfl) (hall : ke.all (·.isSome) = true := by rfl) (h0 : ke ≠ [] := by simp) (h15 : ke.length ≤ 15 := by decide) :
    PE X (.Dict ke es pos) (denL Γ (mDict ks g)) := pe_w (pe_disp (pps_of hk hv hl) hall hl h0 h15) fun σ H Q => by
  rintro ⟨F, ρ, t, r, t', R, e, q⟩
  obtain ⟨⟨rs, t1⟩, e1, e⟩ := bind_some e
  obtain ⟨ds, e2, e⟩ := bind_some e
  split at e
  · rename_i hz
    cases e
    intro p hp
    have x0 : Ext [] F H F (upd H p (.dK [])) := Ext.new R.ex hp
    refine pairs_of hv (R.ext0 x0) e1 (by rw [kept_len e2, hz.1]) fun vs F1 H1 R1 x1 k1 => ?_
    have hpS : p ∉ Γ.S := (R.toFin.old hp).2
    have at1 : H1 p = some (.dK []) := x1.h p _ hpS upd_same
    have dq := kept_ok k1 e2
    have hlen : ks.length = vs.length := by rw [k1.len, kept_len e2, hz.1]
    refine ⟨at1, ks.zip vs, ?_, ?_, ?_⟩
    · have key : ∀ (ks : List Key) (vs : List V), (ks.map kV).zip vs = (ks.zip vs).map fun kv => (kV kv.1, kv.2) := by
        intro ks
        induction ks with
        | nil => intro vs; rfl
        | cons k ks ih =>
          intro vs
          cases vs with
          | nil => rfl
          | cons v vs => rw [List.map_cons, List.zip_cons_cons, List.zip_cons_cons, List.map_cons, ih]
      exact key ks vs
    · rw [List.length_zip]; omega
    · have hm : mergeK [] (ks.zip vs) = ks.zip vs := merge_new _ [] (by rw [List.nil_append, List.map_fst_zip (Nat.le_of_eq hlen)]; exact hz.2.1)
      rw [hm]
      have f1 : F1 p = none := x1.n p _ (R.ex.free hp) upd_same
      have x2 : Ext Γ.S F H F1 (upd H1 p (.dK (ks.zip vs))) := by
        refine ⟨x1.f, fun b u z => ?_, fun b u hb z => ?_, fun b u z1 z2 => ?_⟩
        · rw [upd_ne (ne_of_none z f1)]; exact x1.e b u z
        · have hbp : b ≠ p := fun y => by subst y; rw [hp] at z; cases z
          rw [upd_ne hbp]
          exact x1.h b u hb (by rw [upd_ne hbp]; exact z)
        · have hbp : b ≠ p := fun y => by subst y; rw [hp] at z2; cases z2
          exact x1.n b u z1 (by rw [upd_ne hbp]; exact z2)
      have own : Own Γ.K F1 (upd H1 p (.dK (ks.zip vs))) p (.dict (mapD ks ds)) := ⟨f1, _, upd_same, kD_ok hlen dq⟩
      have fr := R.fresh (H' := H1) (a := p) (d := .dict []) ⟨R.ex.free hp, [], x1.h p _ hpS upd_same, .nil⟩ hp
      refine q p F1 _ ?_ x2 ⟨own, hp, fr.old, fr.nS, fr.nsl⟩
      -- the state behind: only the new object differs
      have inn : Γ.In t' (upd H1 p (.dK (ks.zip vs))) := Γ.loc _ H1 _ (fun b hb => upd_ne fun z : b = p => hpS (z ▸ hb)) R1.inn
      refine R.ext x2 inn R1.sF
  · cases e
end

/-! ### the script -/
def Gs (w : World) (K : PySem.W.Frag) (a : Addr) (F H : Hp) : Gm := { K := K, w := w, S := [], T := Unit, In := fun _ _ => True, loc := fun _ _ _ _ h => h, has := fun _ _ _ h _ => absurd h (by simp), F0 := F, H0 := H, ta := fun _ => .ref a }
def cutI (ns : List Int) (n : Int) : List Int := (ns.drop (HT.sIx ns.length 0 none)).take (HT.sIx ns.length ns.length (some n) - HT.sIx ns.length 0 none)
def mScrCut (ns : List Int) (n : Int) (fo : ME Unit) : Env → Unit → Option (PyData × Unit) := fun ρ t => match fo ρ t with
  | some (.tray _, t') => some (.list ((cutI ns n).map .int), t')
  | _ => none
def mScrLen (ns : List Int) (fo : ME Unit) : ME Unit := fun ρ t => match fo ρ t with
  | some (.tray _, t') => some (.fro (.int (ns.length : Int)), t')
  | _ => none
theorem cut_ints (ns : List Int) (n : Int) : cutV (ns.map V.int) none (some n) = (cutI ns n).map V.int := by
  unfold cutV cutI
  simp [List.map_take, List.map_drop]
section
variable {K : PySem.W.Frag} {a : Addr} {F0 H0 : Hp} {X : Cx} {o : Expr} {fo : ME Unit} {ns : List Int} {pos p2 p3 : Pos} {j : Nat} {n : Int}
theorem pe_scrCut (hK : X.K = K) (hS : SqL K F0 a (ns.map V.int)) (hz : ns.length ≤ sizeLine) (ho : PE X o (den (Gs w K a F0 H0) fo)) : PE X (.Subscript o (.Slice none (some (.Constant (.int n) j p2)) none p3) pos) (denL (Gs w K a F0 H0) (mScrCut ns n fo)) :=
  pe_w (pe_slice sl_list ho po_none (po_some pe_int)) fun σ H Q => by
    rintro ⟨F, ρ, t, r, t', R, e, q⟩
    unfold mScrCut at e
    split at e
    · rename_i t1 e1
      cases e
      refine ⟨F, ρ, t, _, _, R, e1, fun v F1 H1 R1 x1 k1 => ?_⟩
      cases (show v = V.ref a from k1)
      have h1 : SqL K H1 a (ns.map V.int) := same_l R1.ex (same_l R1.step0 hS)
      rw [← hK] at h1
      refine ⟨n, rfl, a, _, rfl, h1, fun p hp => ?_⟩
      rw [cut_ints]
      have x0 : Ext [] F1 H1 F1 (upd H1 p (.lst ((cutI ns n).map V.int))) := Ext.new R1.ex hp
      have fr := R1.fresh (H' := upd H1 p (.lst ((cutI ns n).map V.int))) (d := .list ((cutI ns n).map .int)) ⟨R1.ex.free hp, _, upd_same, dqa_ints _⟩ hp
      have hp0 : H p = none := old_none x1 R1 hp
      exact q p F1 _ (R1.ext0 x0) (x1.then x0.wide (R1.ext0 x0)) ⟨fr.own, hp0, fr.old, fr.nS, fr.nsl⟩
    · cases e
theorem pe_scrLen (hK : X.K = K) (hS : SqL K F0 a (ns.map V.int)) (hg : Gl X "len") (hm : X.mg "len" = none) (ho : PE X o (den (Gs w K a F0 H0) fo)) (hs : starEach [o] X.env = (false, eval o X.env) :: starEach [] X.env := by rfl) (hpl : (backTo pos (starEach [] X.env)).any (·.1) = false := by rfl) :
    PE X (.Call (.Name "len" p2) [o] [] pos) (den (Gs w K a F0 H0) (mScrLen ns fo)) :=
  pe_w (pe_callB call_len_seq hg hm PySem.boot_len (pa_cons ho pa_nil hs) (by decide) (by decide) hs hpl) fun σ H Q => by
    rintro ⟨F, ρ, t, r, t', R, e, q⟩
    unfold mScrLen at e
    split at e
    · rename_i t1 e1
      cases e
      refine ⟨F, ρ, t, _, _, R, e1, fun v F1 H1 R1 x1 k1 => ?_⟩
      cases (show v = V.ref a from k1)
      have h1 : SqL K H1 a (ns.map V.int) := same_l R1.ex (same_l R1.step0 hS)
      rw [← hK] at h1
      refine ⟨a, _, rfl, .inl h1, ?_⟩
      rw [List.length_map]
      exact q _ F1 H1 R1 x1 (.int _)
    · cases e
end
/-- a def of the script alone -/
def spS (K : PySem.W.Frag) (m : List Int → Option PyData) : Sp := fun vs H Q _ => ∃ a ns d, vs = [.ref a] ∧ SqL K H a (ns.map V.int) ∧ ns.length ≤ 100 ∧ m ns = some d ∧ ∀ v F' H', Same H H' → Same F' H' → Dq K F' v d → Q v H'
def mFunS (n : Nat) (body : List Int → MS Unit) : List Int → Option PyData := fun ns => match body ns (some (.tray 0) :: List.replicate (n - 1) none) () with
  | some (.rt d, _) => some d
  | some (.nx _, _) => some .none
  | _ => none
theorem fn_script {P : Program} {w : World} {K : PySem.W.Frag} {mg : Str → Option Value} {base : Heap} {k : Nat} {f : Addr} {fd : FuncData} {N : List Str} {y x qual : Str} {st : Stmt} {body : List Int → MS Unit} (F : Fun K x qual st f fd) (S : FnScope N [y] (defScope st))
    (hb : ∀ (ns : List Int) (a : Addr) (cdv : Value) (A : Around) (outer : List PySem.Env) (s : Shared) (H : Hp) (E : XK), A.guards = some [] → Room k (A.deeper (PyProof.Rows.envOfC qual (defScope st) s.heap.objs.size f cdv)) → SqL K H a (ns.map V.int) → ns.length ≤ sizeLine →
      PSs (cxOf CX0 P w K mg base N qual (defScope st) f cdv A outer s H E).nox (defBody st) (denS (Gs w K a H H) (body ns))) : FnG P w K mg base CX0 (k + 1) f fd [y] (spS K (mFunS N.length body)) := by
  refine Fn.okG F S (fun vs H Q E h => ?_) fun cdv A outer s H vs Q E hg hr h => ?_
  · obtain ⟨a, ns, d, rfl, _⟩ := h
    rfl
  · obtain ⟨a, ns, d, rfl, hS, hl, e, q⟩ := h
    refine ⟨_, (hb ns a cdv A outer s H E hg hr hS (Nat.le_trans hl (by decide))).nox, H, some (.tray 0) :: List.replicate (N.length - 1) none, (), ?_⟩
    have R : Rep (Gs w K a H H) H H (L2.start N [.ref a]) (some (.tray 0) :: List.replicate (N.length - 1) none) () := by
      refine { ex := Same.refl H, inn := trivial, sF := fun a ha => absurd ha (by simp [Gs]), step0 := Same.refl H, step := fun a o _ q1 q2 => ⟨q1, q2⟩, len := ?_, slots := fun i w e => ?_, sep := fun i j a d e _ hi => ?_ }
      · simp [L2.start, List.length_append]
      · cases i with
        | zero =>
          cases e
          rfl
        | succ i =>
          rw [List.getElem?_cons_succ, List.getElem?_replicate] at e
          split at e <;> cases e
      · cases i with
        | zero => cases hi
        | succ i =>
          rw [List.getElem?_cons_succ, List.getElem?_replicate] at hi
          split at hi <;> cases hi
    unfold mFunS at e
    split at e
    · rename_i d1 t1 e1
      cases e
      exact ⟨.rt d, (), R, e1, fun v F' H' z k => q v F' H' (z.step0.trans z.ex) z.ex k⟩
    · rename_i ρ1 t1 e1
      cases e
      exact ⟨.nx ρ1, (), R, e1, fun σ' F' H' z _ => q _ F' H' (z.step0.trans z.ex) z.ex .non⟩
    · cases e

/-! ### defs that take the tray -/
def spT (K : PySem.W.Frag) (fk : Str) (bs : List Bool) (m : Tr → List PyData → Option (PyData × Tr)) : Sp := fun vs H Q _ => ∃ ta g F t ds d t' ws, vs = .ref ta :: ws ∧ Same F H ∧ F ta = none ∧ F g = none ∧ TrAt fk ta g t H ∧ ArgOk K [ta, g] F H bs ws ds ∧ m t ds = some (d, t') ∧
  ∀ v F' H', Ext [ta, g] F H F' H' → F' ta = none → F' g = none → TrAt fk ta g t' H' → Dq K F' v d → Q v H'
def entryT (n : Nat) (bs : List Bool) (ds : List PyData) : Env := some (.tray 0) :: (slotsOf bs ds ++ List.replicate (n - 1 - ds.length) none)
def mFunT (n : Nat) (bs : List Bool) (body : MS Tr) : Tr → List PyData → Option (PyData × Tr) := fun t ds => match body (entryT n bs ds) t with
  | some (.rt d, t') => some (d, t')
  | some (.nx _, t') => some (.none, t')
  | _ => none
theorem entryT_rep {K : PySem.W.Frag} {fk : Str} {ta g : Addr} {t : Tr} {F H : Hp} {bs : List Bool} {vs : List V} {ds : List PyData} {N : List Str} (sm : Same F H) (h1 : F ta = none) (h2 : F g = none) (inn : TrAt fk ta g t H) (h : ArgOk K [ta, g] F H bs vs ds) (hn : 0 < N.length) :
    Rep (Gt w0 K fk ta g F H) F H (L2.start N (.ref ta :: vs)) (entryT N.length bs ds) t := by
  have hl := slotsOf_len h
  have hd : ds.length = vs.length := by rw [h.len.1, h.len.2]
  have noO : ∀ (i : Nat) (d : PyData), (entryT N.length bs ds)[i]? ≠ some (some (.own d)) := fun i d hi => by
    unfold entryT at hi
    cases i with
    | zero => cases hi
    | succ i =>
      rw [List.getElem?_cons_succ] at hi
      by_cases hi2 : i < (slotsOf bs ds).length
      · rw [List.getElem?_append_left hi2] at hi
        exact noOwn i d hi
      · rw [List.getElem?_append_right (by omega), List.getElem?_replicate] at hi
        split at hi <;> cases hi
  refine { ex := sm, inn := inn, sF := fun a ha => ?_, step0 := Same.refl F, step := fun a o _ q1 q2 => ⟨q1, q2⟩, len := ?_, slots := fun i w e => ?_, sep := fun i j a d e _ hi => (noO i d hi).elim }
  · rcases List.mem_cons.mp ha with rfl | ha
    · exact h1
    · cases List.mem_singleton.mp ha
      exact h2
  · unfold entryT L2.start
    rw [List.length_cons, List.length_append, List.length_append, List.length_map, List.length_replicate, List.length_replicate, hl, hd, List.length_cons]
    omega
  · unfold entryT at e
    cases i with
    | zero =>
      cases e
      rfl
    | succ i =>
      rw [List.getElem?_cons_succ] at e
      by_cases hi : i < (slotsOf bs ds).length
      · rw [List.getElem?_append_left hi] at e
        have := entry_slot (Γ := Gt w0 K fk ta g F H) (N := N) rfl rfl rfl rfl (pre := [.ref ta]) (pe := [some (.tray 0)]) rfl h (i + 1) w (by simpa using e)
        rcases this with q | q
        · simp at q
        · have hz : (L2.start N (.ref ta :: vs))[i + 1]? = ((([.ref ta] : List V) ++ vs).map some)[i + 1]? := by
            unfold L2.start
            rw [List.getElem?_append_left (by rw [List.length_map, List.length_cons]; omega), List.singleton_append]
          cases w <;> (unfold SlotOk at q ⊢; rw [hz]; exact q)
      · rw [List.getElem?_append_right (by omega), List.getElem?_replicate] at e
        split at e <;> cases e
/-- the rule: a def with the tray -/
theorem fn_tray {P : Program} {w : World} {K : PySem.W.Frag} {fk : Str} {mg : Str → Option Value} {base : Heap} {k : Nat} {f : Addr} {fd : FuncData} {N ps : List Str} {x qual : Str} {st : Stmt} {bs : List Bool} {body : MS Tr} (F : Fun K x qual st f fd) (S : FnScope N ps (defScope st)) (hn : bs.length + 1 = ps.length) (hN : 0 < N.length)
    (hb : ∀ (ta g : Addr) (cdv : Value) (A : Around) (outer : List PySem.Env) (s : Shared) (H F0 : Hp) (E : XK), A.guards = some [] → Room k (A.deeper (PyProof.Rows.envOfC qual (defScope st) s.heap.objs.size f cdv)) →
      PSs (cxOf CX0 P w K mg base N qual (defScope st) f cdv A outer s H E).nox (defBody st) (denS (Gt w K fk ta g F0 H) body)) : FnG P w K mg base CX0 (k + 1) f fd ps (spT K fk bs (mFunT N.length bs body)) := by
  refine Fn.okG F S (fun vs H Q E h => ?_) fun cdv A outer s H vs Q E hg hr h => ?_
  · obtain ⟨ta, g, F0, t, ds, d, t', ws, rfl, _, _, _, _, a, _⟩ := h
    rw [List.length_cons, a.len.1, hn]
  · obtain ⟨ta, g, F0, t, ds, d, t', ws, rfl, sm, f1, f2, inn, a, e, q⟩ := h
    refine ⟨_, (hb ta g cdv A outer s H F0 E hg hr).nox, F0, entryT N.length bs ds, t, ?_⟩
    unfold mFunT at e
    have fin : ∀ {F' H' : Hp} {t2 : Tr}, Fin (Gt w K fk ta g F0 H) F' H' t2 → Ext [ta, g] F0 H F' H' := fun {F' H' t2} z => ⟨z.step0, z.ex, fun b o hS hb => ?_, fun b o q1 q2 => ?_⟩
    · split at e
      · rename_i d1 t1 e1
        cases e
        exact ⟨.rt d, t', entryT_rep sm f1 f2 inn a hN, e1, fun v F' H' z k => q v F' H' (fin z) (z.sF ta (by show ta ∈ [ta, g]; simp)) (z.sF g (by show g ∈ [ta, g]; simp)) z.inn k⟩
      · rename_i ρ1 t1 e1
        cases e
        exact ⟨.nx ρ1, t', entryT_rep sm f1 f2 inn a hN, e1, fun σ' F' H' z _ => q _ F' H' (fin z.toFin) (z.sF ta (by show ta ∈ [ta, g]; simp)) (z.sF g (by show g ∈ [ta, g]; simp)) z.inn .non⟩
      · cases e
    · by_cases hz : F0 b = none
      · exact (z.step b o hS hz hb).2
      · cases z2 : F0 b with
        | none => exact absurd z2 hz
        | some u =>
          have e1 := sm b u z2
          rw [hb] at e1
          cases e1
          exact z.ex b o (z.step0 b o z2)
    · by_cases hS : b ∈ [ta, g]
      · exact z.sF b hS
      · exact (z.step b o hS q1 q2).1
def mCallT (bs : List Bool) (m : Tr → List PyData → Option (PyData × Tr)) (fs : Env → Tr → Option (List Rv × Tr)) : ME Tr := fun ρ t => match fs ρ t with
  | some (.tray 0 :: rs, t1) => do
    let ds ← args ρ bs rs
    let (d, t2) ← m t1 ds
    pure (.fro d, t2)
  | _ => none
section
variable {K : PySem.W.Frag} {fk : Str} {ta g : Addr} {F0 H0 : Hp} {X : Cx} {a : Expr} {es : List Expr} {pos p : Pos} {x : Str} {k : Nat} {f : Addr} {fd : FuncData} {ps : List Str} {bs : List Bool} {m : Tr → List PyData → Option (PyData × Tr)} {ga : Env → Tr → Option (List Rv × Tr)}
theorem w_callT {E : XK} (σ : L2.St) (H : Hp) (Q : VK) : den (Gt w K fk ta g F0 H0) (mCallT bs m ga) σ H Q → denA (Gt w K fk ta g F0 H0) ga σ H fun vs H1 => spT K fk bs m vs H1 Q E := by
  rintro ⟨F, ρ, t, r, t', R, e, q⟩
  unfold mCallT at e
  split at e
  · rename_i rs t1 e1
    obtain ⟨ds, e2, e⟩ := bind_some e
    obtain ⟨⟨d, t2⟩, e3, e⟩ := bind_some e
    cases e
    refine ⟨F, ρ, t, _, _, R, e1, fun vs F1 H1 R1 x1 k1 => ?_⟩
    cases k1 with
    | @cons v vs _ _ k0 k1 =>
      cases (show v = V.ref ta from k0)
      refine ⟨ta, g, F1, _, ds, d, _, vs, rfl, R1.ex, R1.sF ta (by show ta ∈ [ta, g]; simp), R1.sF g (by show g ∈ [ta, g]; simp), R1.inn, args_ok R1 k1 e2, e3, fun v F2 H2 x2 f1 f2 i2 k2 => ?_⟩
      have R2 : Rep (Gt w K fk ta g F0 H0) F2 H2 σ ρ _ := R1.ext x2 i2 fun b hb => by
        rcases List.mem_cons.mp hb with rfl | hb
        · exact f1
        · cases List.mem_singleton.mp hb
          exact f2
      exact q v F2 H2 R2 (x1.then x2 R2) k2
  · cases e
theorem pe_callT (G : FnG X.prog X.w X.K X.mg X.base CX0 k f fd ps (spT K fk bs m)) (hg : X.A.guards = some []) (hr : Room k X.A) (hgl : Gl X x) (hm : X.mg x = some (.ref f)) (hk : PySem.W.keepIn X.K (.ref f) = true) (hb : Binds X.K fd ps [])
    (ha : PA X (a :: es) (denA (Gt w K fk ta g F0 H0) ga)) (hdb : (x == ("__debug__" : Str)) = false := by decide) (he : starEach (a :: es) X.env = (false, eval a X.env) :: starEach es X.env := by rfl) (hpl : (backTo pos (starEach es X.env)).any (·.1) = false := by rfl) :
    PE X (.Call (.Name x p) (a :: es) [] pos) (den (Gt w K fk ta g F0 H0) (mCallT bs m ga)) := pe_w (pe_callG (E := E0) G hg hr hgl hm hk hb pass0 ha hdb he hpl) w_callT
end
end Mi
/-! A law's def and its end. -/
namespace Mi
open PySem L2

/-- the tray as the def that makes it answers it -/
def trD (fk : Str) (t : Tr) : PyData := .dict ((.str fk, .list (t.far.map .int)) :: t.es.map fun e => (.str e.1, .int e.2))
section
variable {K : PySem.W.Frag} {F H : Hp}
theorem dqk_es : ∀ {es : List (Str × Int)} {kvs : List (Key × V)}, DqK K F kvs (es.map fun e => (PyData.str e.1, PyData.int e.2)) → kvs = es.map entE
  | [], _, .nil => rfl
  | (x, i) :: r, (k, v) :: kvs, h => by
    rw [List.map_cons] at h
    generalize hd : (PyData.str (x, i).1, PyData.int (x, i).2) = d at h
    cases h with
    | cons h1 h2 =>
      rename_i d2
      have e1 := (Prod.mk.inj hd).1
      have e2 := (Prod.mk.inj hd).2
      cases e2
      cases h1
      rw [List.map_cons, dqk_es h2]
      cases k with
      | inl z => cases e1
      | inr z => cases e1; rfl
theorem dqa_int : ∀ {zs : List Int} {vs : List V}, DqA K F vs (zs.map .int) → vs = zs.map V.int
  | [], _, h => by cases h; rfl
  | z :: r, _, h => by
    rw [List.map_cons] at h
    cases h with
    | cons h1 h2 =>
      cases h1
      rw [List.map_cons, dqa_int h2]
theorem trD_at {fk : Str} {t : Tr} {v : V} (h : Dq K F v (trD fk t)) (sm : Same F H) : ∃ ta g, v = .ref ta ∧ TrAt fk ta g t H := by
  unfold trD at h
  cases h with
  | @dct ta kvs _ hF hk =>
    generalize hd : (PyData.str fk, PyData.list (t.far.map .int)) = d at hk
    cases hk with
    | @cons k v0 vs d0 ds h1 h2 =>
      have e1 := (Prod.mk.inj hd).1
      have e2 := (Prod.mk.inj hd).2
      cases e2
      cases h1 with
      | @lst g xs _ hg ha =>
        cases k with
        | inl z => cases e1
        | inr z =>
          cases e1
          refine ⟨ta, g, rfl, ?_, ?_⟩
          · rw [sm _ _ hF, dqk_es h2]; rfl
          · rw [sm _ _ hg, dqa_int ha]
end
def spLaw (K : PySem.W.Frag) (n : Nat) : Sp := fun vs H Q _ => ∃ (a : Addr) (ns : List Int), vs = [.ref a] ∧ SqL K H a (ns.map V.int) ∧ ns.length ≤ n ∧ (∀ z ∈ ns, Builtin.Int.intBits z ≤ 1048576) ∧ ∀ H', Q (.bl true) H'
/-- the names of a law, the tray's set -/
def entryL (n i : Nat) : Env := (List.replicate n none).set i (some (.tray 0))
theorem ps_in {X : Cx} {ss : List Stmt} {A : Type} {t : A → TS} (h : ∀ a, PSs X ss (t a)) : PSs X ss (fun D σ H => ∃ a, t a D σ H) := ⟨fun pins s σ H D I q => let ⟨a, q⟩ := q; (h a).run pins s σ H D I q⟩
/-- law(script): tray = make(script), then the rest -/
theorem fn_law {P : Program} {w : World} {K : PySem.W.Frag} {fk : Str} {mg : Str → Option Value} {base : Heap} {k i n : Nat} {f : Addr} {fd : FuncData} {N : List Str} {y x qual : Str} {st s1 : Stmt} {rest : List Stmt} {mt : List Int → Option PyData} {body : MS Tr} (F : Fun K x qual st f fd) (S : FnScope N [y] (defScope st))
    (hst : defBody st = s1 :: rest) (hi : i < N.length) (hn : n ≤ 100)
    (h1 : ∀ (cdv : Value) (A : Around) (outer : List PySem.Env) (s : Shared) (H : Hp) (E : XK), A.guards = some [] → Room k (A.deeper (PyProof.Rows.envOfC qual (defScope st) s.heap.objs.size f cdv)) →
      PS (cxOf CX0 P w K mg base N qual (defScope st) f cdv A outer s H E).nox s1 (tAsg (fun σ H Q => tVar 0 σ H fun v H1 => spS K mt [v] H1 Q E0) (gName i)))
    (hb : ∀ (ta g : Addr) (cdv : Value) (A : Around) (outer : List PySem.Env) (s : Shared) (H H0 F0 : Hp) (E : XK), A.guards = some [] → Room k (A.deeper (PyProof.Rows.envOfC qual (defScope st) s.heap.objs.size f cdv)) →
      PSs (cxOf CX0 P w K mg base N qual (defScope st) f cdv A outer s H E).nox rest (denS (Gt w K fk ta g F0 H0) body))
    (hl : ∀ ns : List Int, ns.length ≤ n → (∀ z ∈ ns, Builtin.Int.intBits z ≤ 1048576) → ∃ t0, mt ns = some (trD fk t0) ∧ ∃ t', body (entryL N.length i) t0 = some (.rt (.bool true), t')) : FnG P w K mg base CX0 (k + 1) f fd [y] (spLaw K n) := by
  refine Fn.okG F S (fun vs H Q E h => ?_) fun cdv A outer s H vs Q E hg hr h => ?_
  · obtain ⟨a, ns, rfl, _⟩ := h
    rfl
  · obtain ⟨a, ns, rfl, hS, hlen, hbits, q⟩ := h
    obtain ⟨t0, e0, t', e1⟩ := hl ns hlen hbits
    rw [hst]
    refine ⟨_, (pss_cons (h1 cdv A outer s H E hg hr) (ps_in fun x : Addr × Addr × Hp × Hp => hb x.1 x.2.1 cdv A outer s H x.2.2.1 x.2.2.2 E hg hr)).nox, ?_⟩
    have h0 : (L2.start N [.ref a])[0]? = some (some (V.ref a)) := rfl
    refine ⟨_, h0, a, ns, _, rfl, hS, by omega, e0, fun v F1 H1 s1 s2 dq => ?_⟩
    obtain ⟨ta, g, rfl, T⟩ := trD_at dq s2
    refine ⟨⟨ta, g, H1, fun _ => none⟩, fun _ => none, entryL N.length i, t0, .rt (.bool true), t', ?_, e1, fun v F' H' z k => ?_⟩
    · have only : ∀ (j : Nat) (w : Val), (entryL N.length i)[j]? = some (some w) → i = j ∧ w = .tray 0 := fun j w e => by
        unfold entryL at e
        rcases get_set e with ⟨rfl, z⟩ | ⟨_, z⟩
        · cases z; exact ⟨rfl, rfl⟩
        · rw [List.getElem?_replicate] at z
          split at z <;> cases z
      refine { ex := fun b u z => (by cases z), inn := T, sF := fun _ _ => rfl, step0 := Same.refl _, step := fun b o _ q1 q2 => ⟨q1, q2⟩, len := ?_, slots := fun j w e => ?_, sep := fun j k b d d' _ hj => ?_ }
      · unfold entryL L2.start
        rw [List.length_set, List.length_set, List.length_append, List.length_replicate, List.length_map, List.length_replicate, List.length_singleton]
        omega
      · obtain ⟨rfl, rfl⟩ := only j w e
        show ((L2.start N [.ref a]).set i _)[i]? = _
        rw [List.getElem?_set_self (by unfold L2.start; rw [List.length_append, List.length_map, List.length_replicate, List.length_singleton]; omega)]
        rfl
      · obtain ⟨_, z⟩ := only j _ hj
        cases z
    · cases (show Dq K F' v (.bool true) from k)
      exact q H'

/-! ### the end -/
/-- what is tracked when the law is called: the script, unless the program itself made it -/
def only1 (K : PySem.W.Frag) (a : Addr) (o : Obj) (u : HO) : Hp := fun b => if b = a ∧ K.lookup a = none then some (.frz o u) else none
section
variable {K : PySem.W.Frag} {a b : Addr} {o : Obj} {u : HO}
theorem only1_in {x : HO} (h : only1 K a o u b = some x) : b = a ∧ K.lookup a = none ∧ x = .frz o u := by
  unfold only1 at h
  split at h
  · rename_i z
    cases h
    exact ⟨z.1, z.2, rfl⟩
  · cases h
theorem only1_no (h : b ≠ a ∨ ∃ x, K.lookup a = some x) : only1 K a o u b = none := by
  unfold only1
  rw [if_neg]
  rintro ⟨z1, z2⟩
  rcases h with h | ⟨x, h⟩
  · exact h z1
  · rw [h] at z2; cases z2
end
theorem end_call {P : Program} {w : World} {K : PySem.W.Frag} {mg mb : Str → Option Value} {k n : Nat} {fa a : Addr} {fd : FuncData} {x : Str} {s₁ : Shared} {vs : List Value} {ns : List Int}
    (KX : K.In s₁.heap) (hns : s₁.heap.Ns mainGlobals mg) (hb : s₁.heap.Ns builtinsNs mb) (hbb : ∀ y : Str, y ≠ "__name__" → mb y = bootBuiltins y) (hlim : s₁.heap.NoLimit) (hg : s₁.gens = #[])
    (ha : s₁.heap.get? a = some { cls := .type "list", data := .seq vs.toArray }) (hi : PyProof.Rows.IntsAre vs ns) (hl : ns.length ≤ n) (hz : ∀ z ∈ ns, Builtin.Int.intBits z ≤ 1048576) (hn : n ≤ sizeLine) (hr : Room k callerA)
    (F : ∀ base : Heap, K.In base → base.Ns mainGlobals mg → FnG P w K mg base CX0 k fa fd [x] (spLaw K n)) (hbind : ∀ (s : Shared) (u : Value), BindsTo s fd ⟨[u], []⟩ [(x, u)]) :
    codeAny (model P w) callerA (.call (.ref fa) ⟨[.ref a], []⟩) (fun r s' => r = .ok (.ret (.bool true)) ∧ PySem.OldK s₁.heap s'.heap ∧ s'.os = s₁.os ∧ PyProof.Rows.AllBare s'.gens) s₁ := by
  have rv : Vals (ns.map V.int) vs := vals_ints hi
  let ob : Obj := { cls := .type "list", data := .seq vs.toArray }
  let H : Hp := only1 K a ob (.lst (ns.map V.int))
  have sz : (ns.map V.int).length ≤ sizeLine := by rw [List.length_map]; omega
  have hS : SqL K H a (ns.map V.int) := by
    cases q : K.lookup a with
    | none => exact .inl (.inr ⟨ob, if_pos ⟨rfl, q⟩⟩)
    | some o =>
      have z := KX a o q
      rw [ha] at z
      cases z
      exact .inr ⟨_, _, _, q, rfl, rfl, rfl, by rw [List.size_toArray, ← rv.length]; exact sz, by simpa using rv⟩
  have hok : HOk P w H s₁.heap := fun b u z => by
    obtain ⟨rfl, _, rfl⟩ := only1_in z
    exact ⟨ha, sz, vs, _, rv, ha⟩
  -- what is not the script's object stands in the hidden heap too
  have keep : ∀ {b : Addr} {o : Obj}, s₁.heap.get? b = some o → (b ≠ a ∨ ∃ y, K.lookup a = some y) → (hidT s₁.heap H).get? b = some o := fun e h => hidT_get e (only1_no h)
  have kin : K.In (hidT s₁.heap H) := fun b o e => keep (KX b o e) (by
    by_cases z : b = a
    · subst z; exact .inr ⟨o, e⟩
    · exact .inl z)
  have dicts : ∀ {b : Addr} {m : Str → Option Value}, s₁.heap.Ns b m → (hidT s₁.heap H).Ns b m := fun {b m} ⟨o, es, ep, e, d, r⟩ => ⟨o, es, ep, keep e (.inl fun z => by
    subst z
    rw [ha] at e
    cases e
    cases (show Data.seq vs.toArray _ = Data.dict es ep from d)), d, r⟩
  have M : Mod K mg (hidT s₁.heap H) := ⟨kin, dicts hns, ⟨mb, dicts hb, hbb⟩, let ⟨m, q1, q2⟩ := hlim; ⟨m, dicts q1, q2⟩⟩
  have e0 : Env0 P w K mg (hidT s₁.heap H) callerA [] s₁ H := { frames := rfl, mod := M, bs := fun b o e => of_hidT e, bsz := Nat.le_of_eq (hidT_size _ _), funs := trivial, frf := fun b hb => (by cases hb), hok := hok, bare := .of_eq hg }
  refine codeAny_mono ((F _ kin (dicts hns)).run callerA [] s₁ H ⟨[.ref a], []⟩ [.ref a] [.ref a] (fun v _ => v = .bl true) E0 rfl hr e0 (hbind s₁ (.ref a)) (.cons rfl .nil) ⟨a, ns, rfl, hS, hl, hz, fun _ => rfl⟩) fun r s' h => ?_
  match r, h with
  | .error e, h => exact h.elim
  | .ok .next, h => exact False.elim h
  | .ok .brk, h => exact False.elim h
  | .ok .cont, h => exact False.elim h
  | .ok (.ret u), ⟨v, H', os, bare, un, hok', r', q⟩ =>
    cases (show v = V.bl true from q)
    cases (show u = Value.bool true from r')
    refine ⟨rfl, .of_keep fun b o e => ?_, os, bare⟩
    cases z : H b with
    | none => exact un.keep b o e z (by intro y; cases y) (by simp)
    | some u =>
      obtain ⟨rfl, _, rfl⟩ := only1_in z
      have z2 := (hok' b _ (un.frzs b _ _ z)).1
      rw [ha] at e
      cases e
      exact z2
theorem walk_law {l : PySem.W.OpenLaw} {n k : Nat} {q : Program} {loose : List Str} {XP : (Str → Option Value) → Heap → Prop} {YP : World → Heap → Prop} {d : PySem.DefRec} {K : Params → PySem.W.Frag} {x : Str}
    (hn : l.most = some n) (hn2 : n ≤ sizeLine) (hdf : d.params.defaults = []) (hr : Room k callerA) (hY : ∀ (w : World) (h : Heap), YP w h → (K w.params).In h)
    (F : ∀ (w : World) (mg : Str → Option Value) (fa : Addr) (h : Heap), (K w.params).In h → h.Ns mainGlobals mg → mg d.name = some (.ref fa) →
      ∃ fd : FuncData, (∀ (s : Shared) (u : Value), BindsTo s fd ⟨[u], []⟩ [(x, u)]) ∧ ∀ base : Heap, (K w.params).In base → base.Ns mainGlobals mg → FnG l.prog w (K w.params) mg base CX0 k fa fd [x] (spLaw (K w.params) n)) :
    PySem.W.WalkO q loose XP YP l.row.toRowW d [] (fun f vs => PySem.call f vs) :=
  Att.attach_callB hn hdf fun w _ _ mg _ fa _ _ _ _ a vs ns G Y _ _ _ hmg hobj hints hlen hz hg =>
    let ⟨_, hb, hF⟩ := F w mg fa _ (hY w _ Y) G.T.g hmg
    end_call (hY w _ Y) G.T.g G.T.b G.T.builtins G.T.nolimit hg hobj hints hlen hz hn2 hr hF hb
end Mi
/-! x op= e; list(x) of one's own; xs.append(ys.pop(k)); what is known of a def. -/
namespace Mi
open PySem L2

section
variable {X : Cx}
def addI : PyData → PyData → Option PyData
  | .int i, .int j => some (.int (i + j))
  | .str x, .str y => if x.length + y.length ≤ sizeLine then some (.str (x ++ y)) else none
  | _, _ => none
theorem ip_addD : PIp X .Add (rD X.K addI) := by
  rintro pins s σ H v w a b Q I ra rb ⟨F, x, y, z, sm, dx, dy, e, q⟩
  unfold addI at e
  split at e
  · cases e
    exact iop_add pins s σ H _ _ a b Q I ra rb ⟨_, _, dx, dy, q _ F H (Ext.refl sm) (.int _)⟩
  · split at e
    · rename_i hz
      cases e
      exact iop_add_str pins s σ H _ _ a b Q I ra rb ⟨_, _, dx, dy, hz, q _ F H (Ext.refl sm) (.str _)⟩
    · cases e
  · cases e
end
/-- x op= e -/
def cur (ρ : Env) (i : Nat) : Option PyData := match ρ[i]? with
  | some (some (.fro x)) => some x
  | some (some (.bor x)) => if flat x = true then some x else none
  | _ => none
theorem cur_ok {Γ : Gm} {F H : Hp} {σ : L2.St} {ρ : Env} {t : Γ.T} {i : Nat} {x : PyData} (R : Rep Γ F H σ ρ t) (h : cur ρ i = some x) : ∃ v, σ[i]? = some (some v) ∧ Dq Γ.K F v x := by
  unfold cur at h
  split at h
  · rename_i d e
    cases h
    exact R.slots i _ e
  · rename_i d e
    split at h
    · rename_i hf
      cases h
      obtain ⟨v, e1, o⟩ := R.slots i _ e
      refine ⟨v, e1, ?_⟩
      rcases o with o | ⟨a, u, _, o, _⟩
      · exact o
      · cases x <;> first | exact o.elim | cases hf
    · cases h
  · cases h
def mAug {T : Type} (i : Nat) (g : PyData → PyData → Option PyData) (f : ME T) : MS T := fun ρ t => match cur ρ i with
  | some x => do
    let (r, t1) ← f ρ t
    let y ← rd ρ r
    let z ← g x y
    pure (.nx (ρ.set i (some (.fro z))), t1)
  | none => none
section
variable {Γ : Gm} {X : Cx} {a b : Expr} {fa fb : ME Γ.T} {pos p2 : Pos}
theorem ps_augD {i : Nat} {x : Str} {op : Operator} {g : PyData → PyData → Option PyData} (hN : X.N.Nodup) (hi : X.N[i]? = some x) (hx : Loc X.env.scope x) (he : PE X a (den Γ fa)) (ho : PIp X op (rD Γ.K g))
    (hf : X.fn x = true ∨ X.env.scope.names.lookup x = some .local := by first | exact .inl rfl | exact .inr rfl | assumption) : PS X (.AugAssign (.Name x p2) op a pos) (denS Γ (mAug i g fa)) := ps_w (ps_aug hN hi hx he ho hf) fun D σ H => by
  rintro ⟨F, ρ, t, r, t', R, e, q⟩
  unfold mAug at e
  split at e
  · rename_i x e0
    obtain ⟨⟨r1, t1⟩, e1, e⟩ := bind_some e
    obtain ⟨y, ey, e⟩ := bind_some e
    obtain ⟨z, ez, e⟩ := bind_some e
    cases e
    obtain ⟨v, hv, dv⟩ := cur_ok R e0
    refine ⟨v, hv, F, ρ, t, _, _, R, e1, fun w F1 H1 R1 x1 k1 => ?_⟩
    exact ⟨F1, x, y, z, R1.ex, (dv.mono x1.f).dv R1.ex, R1.read k1 ey, ez, fun u F2 H2 x2 k2 => q _ F2 H2 ((R1.ext0 x2).setF k2) (x1.f.trans x2.f)⟩
  · cases e
/-- list(x), one's own -/
def mListL {T : Type} (g : Env → T → Option (List Rv × T)) : Env → T → Option (PyData × T) := fun ρ t => do
  let (rs, t1) ← g ρ t
  let xs ← rds ρ rs
  match xs with
  | [.list ds] => some (.list ds, t1)
  | [.tuple ds] => some (.list ds, t1)
  | _ => none
variable {ga : Env → Γ.T → Option (List Rv × Γ.T)} {p : Pos}
theorem pe_listL (hK : X.K = Γ.K) (hg : Gl X "list") (hm : X.mg "list" = none) (hv : bootBuiltins "list" = some (.type "list")) (ha : PA X [a] (denA Γ ga)) (he : starEach [a] X.env = (false, eval a X.env) :: starEach [] X.env := by rfl) (hpl : (backTo pos (starEach [] X.env)).any (·.1) = false := by rfl) :
    PE X (.Call (.Name "list" p) [a] [] pos) (denL Γ (mListL ga)) := pe_w (pe_callTy call_list_of hg hm hv ha (by decide) (by decide) he hpl) fun σ H Q => by
  rintro ⟨F, ρ, t, r, t', R, e, q⟩
  obtain ⟨⟨rs, t1⟩, e1, e⟩ := bind_some e
  obtain ⟨xs, e2, e⟩ := bind_some e
  refine ⟨F, ρ, t, _, _, R, e1, fun vs F1 H1 R1 x1 k1 => ?_⟩
  have dx := reads R1 k1 e2
  have fin : ∀ (ds : List PyData) (ws : List V) (p : Addr), H1 p = none → DqA Γ.K F1 ws ds → some (PyData.list ds, t1) = some (r, t') → Q (.ref p) (upd H1 p (.lst ws)) := fun ds ws p hp k e => by
    cases e
    have x0 : Ext [] F1 H1 F1 (upd H1 p (.lst ws)) := Ext.new R1.ex hp
    have fr := R1.fresh (H' := upd H1 p (.lst ws)) (d := .list ds) ⟨R1.ex.free hp, _, upd_same, k⟩ hp
    exact q p F1 _ (R1.ext0 x0) (x1.then x0.wide (R1.ext0 x0)) ⟨fr.own, old_none x1 R1 hp, fr.old, fr.nS, fr.nsl⟩
  split at e
  · obtain ⟨v, rfl, l, ws, rfl, h1, k⟩ := f1 dx
    rw [hK]
    exact ⟨l, ws, rfl, .inl (.of h1), fun p hp => fin _ ws p hp k e⟩
  · obtain ⟨v, rfl, l, ws, rfl, h1, k⟩ := f1 dx
    rw [hK]
    exact ⟨l, ws, rfl, .inr (same_t R1.ex h1), fun p hp => fin _ ws p hp k e⟩
  · cases e
end

/-- a statement behind which slot i is kept -/
def mEnd {T : Type} (i : Nat) (f : MS T) : MS T := fun ρ t => match f ρ t with
  | some (.nx ρ1, t1) => match ρ1[i]? with
    | some (some (.own d)) => some (.nx (ρ1.set i (some (.fro d))), t1)
    | _ => some (.nx ρ1, t1)
  | r => r
theorem ps_end {Γ : Gm} {X : Cx} {st : Stmt} {f : MS Γ.T} (i : Nat) (h : PS X st (denS Γ f)) : PS X st (denS Γ (mEnd i f)) := ps_w h fun D σ H => by
  rintro ⟨F, ρ, t, r, t', R, e, q⟩
  unfold mEnd at e
  split at e
  · rename_i ρ1 t1 e1
    split at e
    · rename_i d e2
      cases e
      refine ⟨F, ρ, t, _, _, R, e1, fun σ' F' H' R' s => ?_⟩
      obtain ⟨F2, R2, s2⟩ := R'.fz e2
      exact q σ' F2 H' R2 (s.trans s2)
    · cases e
      exact ⟨F, ρ, t, _, _, R, e1, q⟩
  · exact ⟨F, ρ, t, r, t', R, e, q⟩
/-! ### what is known of a def -/
structure Known (P : Program) (w : World) (K : PySem.W.Frag) (mg : Str → Option Value) (base : Heap) (k : Nat) (x : Str) (st : Stmt) (f : Addr) (fd : FuncData) (ps : List Str) (sp : Sp) : Prop where
  m : mg x = some (.ref f)
  F : Fun K x x st f fd
  b : Binds K fd ps []
  G : FnG P w K mg base CX0 k f fd ps sp
theorem Known.mono {P : Program} {w : World} {K : PySem.W.Frag} {mg : Str → Option Value} {base : Heap} {j k : Nat} {x : Str} {st : Stmt} {f : Addr} {fd : FuncData} {ps : List Str} {sp : Sp} (h : Known P w K mg base k x st f fd ps sp) (le : k ≤ j) : Known P w K mg base j x st f fd ps sp := ⟨h.m, h.F, h.b, h.G.mono le⟩
theorem hu64 {k : Nat} {A : Around} (hr : Room k A) : A.units + 64 < cLine := by have := hr.un; omega
section
variable {Γ : Gm} {X : Cx} {a : Expr} {es : List Expr} {pos p : Pos} {x : Str} {st : Stmt} {k j : Nat} {f : Addr} {fd : FuncData} {ps ks : List Str} {bs : List Bool} {m : List PyData → Option PyData} {ga : Env → Γ.T → Option (List Rv × Γ.T)} {kws : List Keyword}
theorem pe_kP (D : Known X.prog X.w X.K X.mg X.base k x st f fd ps (spP Γ.K bs m)) (hg : X.A.guards = some []) (hr : Room j X.A) (hgl : Gl X x) (ha : PA X (a :: es) (denA Γ ga)) (hj : k ≤ j := by decide) (hdb : (x == ("__debug__" : Str)) = false := by decide)
    (he : starEach (a :: es) X.env = (false, eval a X.env) :: starEach es X.env := by rfl) (hpl : (backTo pos (starEach es X.env)).any (·.1) = false := by rfl) : PE X (.Call (.Name x p) (a :: es) [] pos) (den Γ (mCallP bs m ga)) :=
  pe_callP D.G hg (hr.mono hj) hgl D.m D.F.kp D.b ha hdb he hpl
end
section
variable {K : PySem.W.Frag} {fk : Str} {ta g : Addr} {F0 H0 : Hp} {X : Cx} {a : Expr} {es : List Expr} {pos p : Pos} {x : Str} {st : Stmt} {k j : Nat} {f : Addr} {fd : FuncData} {ps : List Str} {bs : List Bool} {m : Tr → List PyData → Option (PyData × Tr)} {ga : Env → Tr → Option (List Rv × Tr)}
theorem pe_kT (D : Known X.prog X.w X.K X.mg X.base k x st f fd ps (spT K fk bs m)) (hg : X.A.guards = some []) (hr : Room j X.A) (hgl : Gl X x) (ha : PA X (a :: es) (denA (Gt w K fk ta g F0 H0) ga)) (hj : k ≤ j := by decide) (hdb : (x == ("__debug__" : Str)) = false := by decide)
    (he : starEach (a :: es) X.env = (false, eval a X.env) :: starEach es X.env := by rfl) (hpl : (backTo pos (starEach es X.env)).any (·.1) = false := by rfl) : PE X (.Call (.Name x p) (a :: es) [] pos) (den (Gt w K fk ta g F0 H0) (mCallT bs m ga)) :=
  pe_callT D.G hg (hr.mono hj) hgl D.m D.F.kp D.b ha hdb he hpl
/-- tray = make(script) -/
theorem ps_make {i : Nat} {y sc : Str} {mt : List Int → Option PyData} {p2 p3 p4 : Pos} (D : Known X.prog X.w X.K X.mg X.base k x st f fd ps (spS X.K mt)) (hg : X.A.guards = some []) (hr : Room j X.A) (hgl : Gl X x) (h0 : PE X (.Name sc p3) (tVar 0)) (hN : X.N.Nodup) (hi : X.N[i]? = some y) (hx : Loc X.env.scope y)
    (hj : k ≤ j := by decide) (hdb : (x == ("__debug__" : Str)) = false := by decide) (he : starEach [.Name sc p3] X.env = (false, eval (.Name sc p3) X.env) :: starEach [] X.env := by rfl) (hpl : (backTo pos (starEach [] X.env)).any (·.1) = false := by rfl)
    (hs : swapsWith (.Call (.Name x p) [.Name sc p3] [] pos) (some (.Name y p2)) p4.line X.env = pure false := by rfl) (hf : X.fn y = true ∨ X.env.scope.names.lookup y = some .local := by first | exact .inl rfl | exact .inr rfl | assumption) :
    PS X (.Assign [.Name y p2] (.Call (.Name x p) [.Name sc p3] [] pos) p4) (tAsg (fun σ H Q => tVar 0 σ H fun v H1 => spS X.K mt [v] H1 Q E0) (gName i)) :=
  ps_w (ps_set hN hi hx (pe_callG (E := E0) D.G hg (hr.mono hj) hgl D.m D.F.kp D.b pass0 (pa_cons h0 pa_nil he) hdb he hpl) hs hf) fun D σ H h => h
end
theorem bt_len : bootBuiltins "len" = some (.builtin "len") := by kernel_rfl
theorem bt_abs : bootBuiltins "abs" = some (.builtin "abs") := by kernel_rfl
theorem bt_sum : bootBuiltins "sum" = some (.builtin "sum") := by kernel_rfl
theorem bt_repr : bootBuiltins "repr" = some (.builtin "repr") := by kernel_rfl
theorem bt_tuple : bootBuiltins "tuple" = some (.type "tuple") := by kernel_rfl
theorem bt_list : bootBuiltins "list" = some (.type "list") := by kernel_rfl
theorem bt_int : bootBuiltins "int" = some (.type "int") := by kernel_rfl
end Mi
/-! Loops of mirrors. -/
namespace Mi
open PySem L2

theorem forL_ind {T : Type} {g : PyData → Env → Option Env} {body : MS T} (P : Nat → Env → T → Prop) : ∀ (ds : List PyData) (i : Nat) (ρ : Env) (t : T), P i ρ t →
    (∀ j d ρ t, ds[j]? = some d → P (i + j) ρ t → ∃ ρ1 ρ2 t2, g d ρ = some ρ1 ∧ body ρ1 t = some (.nx ρ2, t2) ∧ P (i + j + 1) ρ2 t2) → ∃ ρ' t', forL g body ds ρ t = some (.nx ρ', t') ∧ P (i + ds.length) ρ' t'
  | [], i, ρ, t, h, _ => ⟨ρ, t, rfl, h⟩
  | d :: ds, i, ρ, t, h, hs => by
    obtain ⟨ρ1, ρ2, t2, e1, e2, h2⟩ := hs 0 d ρ t rfl h
    obtain ⟨ρ', t', e3, h3⟩ := forL_ind P ds (i + 1) ρ2 t2 h2 fun j d' ρ t hj hp => by
      have q := hs (j + 1) d' ρ t hj (by rw [show i + (j + 1) = i + 1 + j from by omega]; exact hp)
      rw [show i + (j + 1) + 1 = i + 1 + j + 1 from by omega] at q
      exact q
    refine ⟨ρ', t', ?_, by rw [List.length_cons, show i + (ds.length + 1) = i + 1 + ds.length from by omega]; exact h3⟩
    show (match g d ρ with
      | none => none
      | some ρ1 => match body ρ1 t with
        | some (.nx ρ2, t2) => forL g body ds ρ2 t2
        | some (.ct ρ2, t2) => forL g body ds ρ2 t2
        | some (.bk ρ2, t2) => some (.nx ρ2, t2)
        | some (.rt x, t2) => some (.rt x, t2)
        | none => none) = _
    rw [e1]
    dsimp only
    rw [e2]
    exact e3
theorem mFor_ind {T : Type} {its : Env → T → Option (List PyData × T)} {g : PyData → Env → Option Env} {body : MS T} {ρ : Env} {t t1 : T} {ds : List PyData} (P : Nat → Env → T → Prop) (hi : its ρ t = some (ds, t1)) (h0 : P 0 ρ t1)
    (hs : ∀ j d ρ t, ds[j]? = some d → P j ρ t → ∃ ρ1 ρ2 t2, g d ρ = some ρ1 ∧ body ρ1 t = some (.nx ρ2, t2) ∧ P (j + 1) ρ2 t2) : ∃ ρ' t', mFor its g body ρ t = some (.nx ρ', t') ∧ P ds.length ρ' t' := by
  have q := forL_ind P ds 0 ρ t1 h0 (by simpa using hs)
  rw [Nat.zero_add] at q
  obtain ⟨ρ', t', e, h⟩ := q
  refine ⟨ρ', t', ?_, h⟩
  unfold mFor
  rw [hi]
  exact e
/-- a comprehension without a test -/
theorem lcL_ind {T : Type} {g : PyData → Env → Option Env} {f : ME T} {ρ : Env} (P : Nat → T → Prop) (R : Nat → PyData → Prop) : ∀ (ds : List PyData) (i : Nat) (acc : List PyData) (t : T), P i t → acc.length + ds.length ≤ sizeLine →
    (∀ j d t, ds[j]? = some d → P (i + j) t → ∃ ρ1 x t2, g d ρ = some ρ1 ∧ f ρ1 t = some (.fro x, t2) ∧ P (i + j + 1) t2 ∧ R (i + j) x) →
    ∃ out t', lcL g mYes f ρ ds acc t = some (acc ++ out, t') ∧ P (i + ds.length) t' ∧ out.length = ds.length ∧ ∀ j x, out[j]? = some x → R (i + j) x
  | [], i, acc, t, h, _, _ => ⟨[], t, by rw [List.append_nil]; rfl, h, rfl, fun j x e => by simp at e⟩
  | d :: ds, i, acc, t, h, hz, hs => by
    rw [List.length_cons] at hz
    obtain ⟨ρ1, x, t2, e1, e2, h2, r⟩ := hs 0 d t rfl h
    obtain ⟨out, t', e3, h3, hl, hr⟩ := lcL_ind P R ds (i + 1) (acc ++ [x]) t2 h2 (by rw [List.length_append, List.length_singleton]; omega) fun j d' t hj hp => by
      have q := hs (j + 1) d' t hj (by rw [show i + (j + 1) = i + 1 + j from by omega]; exact hp)
      rw [show i + (j + 1) + 1 = i + 1 + j + 1 from by omega, show i + (j + 1) = i + 1 + j from by omega] at q
      exact q
    refine ⟨x :: out, t', ?_, by rw [List.length_cons, show i + (ds.length + 1) = i + 1 + ds.length from by omega]; exact h3, by rw [List.length_cons, List.length_cons, hl], fun j y e => ?_⟩
    · unfold lcL
      rw [e1]
      dsimp only [mYes]
      rw [e2]
      dsimp only
      rw [if_pos (by omega), e3, List.append_assoc]
      rfl
    · cases j with
      | zero => cases e; exact r
      | succ j =>
        rw [show i + (j + 1) = i + 1 + j from by omega]
        exact hr j y e
/-- .. that computes a list -/
theorem lcL_map {T : Type} {g : PyData → Env → Option Env} {f : ME T} {ρ : Env} (h : PyData → PyData) {t : T} : ∀ (ds : List PyData) (acc : List PyData), acc.length + ds.length ≤ sizeLine →
    (∀ d ∈ ds, ∃ ρ1, g d ρ = some ρ1 ∧ f ρ1 t = some (.fro (h d), t)) → lcL g mYes f ρ ds acc t = some (acc ++ ds.map h, t)
  | [], acc, _, _ => by rw [List.map_nil, List.append_nil]; rfl
  | d :: ds, acc, hz, hs => by
    rw [List.length_cons] at hz
    obtain ⟨ρ1, e1, e2⟩ := hs d (List.mem_cons_self ..)
    have ih := lcL_map h ds (acc ++ [h d]) (by rw [List.length_append, List.length_singleton]; omega) fun d' m => hs d' (List.mem_cons_of_mem _ m)
    unfold lcL
    rw [e1]
    dsimp only [mYes]
    rw [e2]
    dsimp only
    rw [if_pos (by omega), ih, List.map_cons, List.append_assoc]
    rfl
theorem mLc_map {T : Type} {its : Env → T → Option (List PyData × T)} {g : PyData → Env → Option Env} {f : ME T} {vs : List Nat} {ρ : Env} {t t1 : T} {ds : List PyData} (h : PyData → PyData) (hi : its ρ t = some (ds, t1)) (hz : ds.length ≤ sizeLine)
    (hs : ∀ d ∈ ds, ∃ ρ1, g d (wipeR ρ vs) = some ρ1 ∧ f ρ1 t1 = some (.fro (h d), t1)) : mLc its g mYes f vs ρ t = some (.list (ds.map h), t1) := by
  unfold mLc
  rw [hi]
  dsimp only
  rw [lcL_map h ds [] (by rw [List.length_nil]; omega) hs]
  rfl
theorem seq_nx {T : Type} {f g : MS T} {ρ ρ1 : Env} {t t1 : T} (h : f ρ t = some (.nx ρ1, t1)) : mSeq f g ρ t = g ρ1 t1 := by
  unfold mSeq
  rw [h]
theorem seq_rt {T : Type} {f g : MS T} {ρ : Env} {t t1 : T} {d : PyData} (h : f ρ t = some (.rt d, t1)) : mSeq f g ρ t = some (.rt d, t1) := by
  unfold mSeq
  rw [h]
theorem if_t {T : Type} {c : Env → T → Option (Bool × T)} {f g : MS T} {ρ : Env} {t t1 : T} (h : c ρ t = some (true, t1)) : mIfS c f g ρ t = f ρ t1 := by
  unfold mIfS
  rw [h]
  rfl
theorem if_f {T : Type} {c : Env → T → Option (Bool × T)} {f g : MS T} {ρ : Env} {t t1 : T} (h : c ρ t = some (false, t1)) : mIfS c f g ρ t = g ρ t1 := by
  unfold mIfS
  rw [h]
  rfl
/-- .. with a test -/
theorem lcL_filt {T : Type} {g : PyData → Env → Option Env} {c : Env → T → Option (Bool × T)} {f : ME T} {ρ : Env} (p : PyData → Bool) (h : PyData → PyData) {t : T} : ∀ (ds : List PyData) (acc : List PyData), acc.length + ds.length ≤ sizeLine →
    (∀ d ∈ ds, ∃ ρ1, g d ρ = some ρ1 ∧ c ρ1 t = some (p d, t) ∧ (p d = true → f ρ1 t = some (.fro (h d), t))) → lcL g c f ρ ds acc t = some (acc ++ (ds.filter p).map h, t)
  | [], acc, _, _ => by rw [List.filter_nil, List.map_nil, List.append_nil]; rfl
  | d :: ds, acc, hz, hs => by
    rw [List.length_cons] at hz
    obtain ⟨ρ1, e1, e2, e3⟩ := hs d (List.mem_cons_self ..)
    unfold lcL
    rw [e1]
    dsimp only
    rw [e2]
    cases hp : p d with
    | true =>
      have ih := lcL_filt p h ds (acc ++ [h d]) (by rw [List.length_append, List.length_singleton]; omega) fun d' m => hs d' (List.mem_cons_of_mem _ m)
      dsimp only
      rw [e3 hp]
      dsimp only
      rw [if_pos (by omega), ih, List.filter_cons_of_pos hp, List.map_cons, List.append_assoc]
      rfl
    | false =>
      have ih := lcL_filt p h ds acc (by omega) fun d' m => hs d' (List.mem_cons_of_mem _ m)
      dsimp only
      rw [ih, List.filter_cons_of_neg (by rw [hp]; decide)]
theorem mLc_filt {T : Type} {its : Env → T → Option (List PyData × T)} {g : PyData → Env → Option Env} {c : Env → T → Option (Bool × T)} {f : ME T} {vs : List Nat} {ρ : Env} {t t1 : T} {ds : List PyData} (p : PyData → Bool) (h : PyData → PyData) (hi : its ρ t = some (ds, t1)) (hz : ds.length ≤ sizeLine)
    (hs : ∀ d ∈ ds, ∃ ρ1, g d (wipeR ρ vs) = some ρ1 ∧ c ρ1 t1 = some (p d, t1) ∧ (p d = true → f ρ1 t1 = some (.fro (h d), t1))) : mLc its g c f vs ρ t = some (.list ((ds.filter p).map h), t1) := by
  unfold mLc
  rw [hi]
  dsimp only
  rw [lcL_filt p h ds [] (by rw [List.length_nil]; omega) hs]
  rfl
/-! ### evaluation, step by step -/
section
variable {T : Type} {f fa fb fc : ME T} {ρ : Env} {t t1 t2 t3 : T} {d x y z : PyData} {r r1 r2 : Rv} {rs : List Rv} {ga : Env → T → Option (List Rv × T)} {gL : Env → T → Option (PyData × T)}
theorem ev_bin {g : PyData → PyData → Option PyData} (h1 : fa ρ t = some (r1, t1)) (h2 : fb ρ t1 = some (r2, t2)) (h3 : rd ρ r1 = some x) (h4 : rd ρ r2 = some y) (h5 : g x y = some z) : mBin g fa fb ρ t = some (.fro z, t2) := by
  unfold mBin
  rw [h1]
  show (fb ρ t1 >>= _) = _
  rw [h2]
  show (rd ρ r1 >>= _) = _
  rw [h3]
  show (rd ρ r2 >>= _) = _
  rw [h4]
  show (g x y >>= _) = _
  rw [h5]
  rfl
theorem ev_test {b : Bool} (h : f ρ t = some (.fro (.bool b), t1)) : mTest f ρ t = some (b, t1) := by
  unfold mTest
  rw [h]
theorem ev_keep (h : gL ρ t = some (d, t1)) : mKeep gL ρ t = some (.fro d, t1) := by
  unfold mKeep
  rw [h]
theorem ev_nil : (mNil : Env → T → Option (List Rv × T)) ρ t = some ([], t) := rfl
theorem ev_cons (h1 : f ρ t = some (r, t1)) (h2 : ga ρ t1 = some (rs, t2)) : mCons f ga ρ t = some (r :: rs, t2) := by
  unfold mCons
  rw [h1]
  show (ga ρ t1 >>= _) = _
  rw [h2]
  rfl
theorem ev_tup {ds : List PyData} (h1 : ga ρ t = some (rs, t1)) (h2 : kept rs = some ds) (h3 : ds.length ≤ sizeLine) : mTup ga ρ t = some (.fro (.tuple ds), t1) := by
  unfold mTup
  rw [h1]
  show (kept rs >>= _) = _
  rw [h2]
  exact if_pos h3
theorem ev_lst {ds : List PyData} (h1 : ga ρ t = some (rs, t1)) (h2 : kept rs = some ds) (h3 : ds.length ≤ sizeLine) : mLst ga ρ t = some (.list ds, t1) := by
  unfold mLst
  rw [h1]
  show (kept rs >>= _) = _
  rw [h2]
  exact if_pos h3
theorem ev_dict {ks : List Key} {ds : List PyData} (h1 : ga ρ t = some (rs, t1)) (h2 : kept rs = some ds) (h3 : ds.length = ks.length ∧ ks.Nodup ∧ ks.length ≤ 15) : mDict ks ga ρ t = some (.dict (mapD ks ds), t1) := by
  unfold mDict
  rw [h1]
  show (kept rs >>= _) = _
  rw [h2]
  exact if_pos h3
theorem ev_call {g : List PyData → Option PyData} {xs : List PyData} (h1 : ga ρ t = some (rs, t1)) (h2 : rds ρ rs = some xs) (h3 : g xs = some z) : mCall g ga ρ t = some (.fro z, t1) := by
  unfold mCall
  rw [h1]
  show (rds ρ rs >>= _) = _
  rw [h2]
  show (g xs >>= _) = _
  rw [h3]
  rfl
theorem ev_callP {bs : List Bool} {m : List PyData → Option PyData} {xs : List PyData} (h1 : ga ρ t = some (rs, t1)) (h2 : args ρ bs rs = some xs) (h3 : m xs = some z) : mCallP bs m ga ρ t = some (.fro z, t1) := by
  unfold mCallP
  rw [h1]
  show (args ρ bs rs >>= _) = _
  rw [h2]
  show (m xs >>= _) = _
  rw [h3]
  rfl
theorem ev_ret (h : f ρ t = some (.fro d, t1)) : mRet f ρ t = some (.rt d, t1) := by
  unfold mRet
  rw [h]
theorem ev_retO {j : Nat} (h : f ρ t = some (.loan j, t1)) (h2 : ρ[j]? = some (some (.own d))) : mRet f ρ t = some (.rt d, t1) := by
  unfold mRet
  rw [h]
  dsimp only
  rw [h2]
theorem ev_set {i : Nat} {g : Env → T → Option (Val × T)} {w : Val} (h : g ρ t = some (w, t1)) : mSet i g ρ t = some (.nx (ρ.set i (some w)), t1) := by
  unfold mSet
  rw [h]
theorem ev_rv (h : f ρ t = some (.fro d, t1)) : mRv f ρ t = some (.fro d, t1) := by
  unfold mRv
  rw [h]
theorem ev_new (h : gL ρ t = some (d, t1)) : mNew gL ρ t = some (.own d, t1) := by
  unfold mNew
  rw [h]
theorem ev_consV {g : Env → T → Option (Val × T)} {gs : Env → T → Option (List Val × T)} {w : Val} {ws : List Val} (h1 : g ρ t = some (w, t1)) (h2 : gs ρ t1 = some (ws, t2)) : mConsV g gs ρ t = some (w :: ws, t2) := by
  unfold mConsV
  rw [h1]
  show (gs ρ t1 >>= _) = _
  rw [h2]
  rfl
theorem ev_par {i j : Nat} {gs : Env → T → Option (List Val × T)} {w1 w2 : Val} (h : gs ρ t = some ([w1, w2], t1)) : mPar i j gs ρ t = some (.nx ((ρ.set i (some w1)).set j (some w2)), t1) := by
  unfold mPar
  rw [h]
theorem ev_asg {g : PyData → Env → Option Env} {ρ1 : Env} (h : f ρ t = some (.fro d, t1)) (h2 : g d ρ = some ρ1) : mAsg f g ρ t = some (.nx ρ1, t1) := by
  unfold mAsg
  rw [h]
  dsimp only
  rw [h2]
theorem ev_app {i : Nat} {ds : List PyData} (h : f ρ t = some (.fro d, t1)) (h2 : ρ[i]? = some (some (.own (.list ds)))) (h3 : ds.length < sizeLine) : mApp i f ρ t = some (.nx (ρ.set i (some (.own (.list (ds ++ [d]))))), t1) := by
  unfold mApp
  rw [h]
  dsimp only
  rw [h2]
  dsimp only
  rw [if_pos h3]
theorem ev_aug {i : Nat} {g : PyData → PyData → Option PyData} (h0 : cur ρ i = some x) (h : f ρ t = some (r, t1)) (h2 : rd ρ r = some y) (h3 : g x y = some z) : mAug i g f ρ t = some (.nx (ρ.set i (some (.fro z))), t1) := by
  unfold mAug
  rw [h0]
  show (f ρ t >>= _) = _
  rw [h]
  show (rd ρ r >>= _) = _
  rw [h2]
  show (g x y >>= _) = _
  rw [h3]
  rfl
theorem ev_range1 {j : Int} (h : ga ρ t = some ([.fro (.int j)], t1)) (h2 : -(2 ^ 62) ≤ j ∧ j < 2 ^ 62) : mRange1 ga ρ t = some ((List.range j.toNat).map fun (k : Nat) => PyData.int (k : Int), t1) := by
  unfold mRange1
  rw [h]
  exact if_pos h2
theorem ev_items {ds : List PyData} (h : f ρ t = some (.fro d, t1)) (h2 : itemsOf d = some ds) : mItems f ρ t = some (ds, t1) := by
  unfold mItems
  rw [h]
  dsimp only
  rw [h2]
theorem ev_enum {ds : List PyData} (h : mItems f ρ t = some (ds, t1)) : mEnum f ρ t = some (withIx ds, t1) := by
  unfold mEnum
  rw [h]
theorem ev_if {c : Env → T → Option (Bool × T)} {b : Bool} (h : c ρ t = some (b, t1)) : mIf c fa fb ρ t = if b then fa ρ t1 else fb ρ t1 := by
  unfold mIf
  rw [h]
  rfl
theorem ev_and {c c' : Env → T → Option (Bool × T)} {b : Bool} (h : c ρ t = some (b, t1)) : mAnd c c' ρ t = if b then c' ρ t1 else some (false, t1) := by
  unfold mAnd
  rw [h]
  rfl
theorem ev_or {c c' : Env → T → Option (Bool × T)} {b : Bool} (h : c ρ t = some (b, t1)) : mOr c c' ρ t = if b then some (true, t1) else c' ρ t1 := by
  unfold mOr
  rw [h]
  rfl
theorem ev_andT {c c' : Env → T → Option (Bool × T)} {o : Option (Bool × T)} (h : c ρ t = some (true, t1)) (h2 : c' ρ t1 = o) : mAnd c c' ρ t = o := (ev_and h).trans h2
theorem ev_andF {c c' : Env → T → Option (Bool × T)} (h : c ρ t = some (false, t1)) : mAnd c c' ρ t = some (false, t1) := ev_and h
theorem ev_orT {c c' : Env → T → Option (Bool × T)} (h : c ρ t = some (true, t1)) : mOr c c' ρ t = some (true, t1) := ev_or h
theorem ev_orF {c c' : Env → T → Option (Bool × T)} {o : Option (Bool × T)} (h : c ρ t = some (false, t1)) (h2 : c' ρ t1 = o) : mOr c c' ρ t = o := (ev_or h).trans h2
theorem ev_ifT {c : Env → T → Option (Bool × T)} {o : Option (Rv × T)} (h : c ρ t = some (true, t1)) (h2 : fa ρ t1 = o) : mIf c fa fb ρ t = o := (ev_if h).trans h2
theorem ev_ifF {c : Env → T → Option (Bool × T)} {o : Option (Rv × T)} (h : c ρ t = some (false, t1)) (h2 : fb ρ t1 = o) : mIf c fa fb ρ t = o := (ev_if h).trans h2
theorem ev_not {c : Env → T → Option (Bool × T)} {b : Bool} (h : c ρ t = some (b, t1)) : mNot c ρ t = some (!b, t1) := by
  unfold mNot
  rw [h]
  rfl
theorem ev_sl {l h' : Env → T → Option (Option Int × T)} {lo hi : Option Int} (h1 : f ρ t = some (r, t1)) (h2 : l ρ t1 = some (lo, t2)) (h3 : h' ρ t2 = some (hi, t3)) (h4 : rd ρ r = some x) (h5 : sliceD x lo hi = some z) : mSl f l h' ρ t = some (.fro z, t3) := by
  unfold mSl
  rw [h1]
  show (l ρ t1 >>= _) = _
  rw [h2]
  show (h' ρ t2 >>= _) = _
  rw [h3]
  show (rd ρ r >>= _) = _
  rw [h4]
  show (sliceD x lo hi >>= _) = _
  rw [h5]
  rfl
theorem ev_part {i : Int} (h : f ρ t = some (.fro (.int i), t1)) : mPart f ρ t = some (some i, t1) := by
  unfold mPart
  rw [h]
end
theorem ev_callT {bs : List Bool} {m : Tr → List PyData → Option (PyData × Tr)} {ga : Env → Tr → Option (List Rv × Tr)} {ρ : Env} {t t1 t2 : Tr} {rs : List Rv} {xs : List PyData} {z : PyData} (h1 : ga ρ t = some (.tray 0 :: rs, t1)) (h2 : args ρ bs rs = some xs) (h3 : m t1 xs = some (z, t2)) : mCallT bs m ga ρ t = some (.fro z, t2) := by
  unfold mCallT
  rw [h1]
  show (args ρ bs rs >>= _) = _
  rw [h2]
  show (m t1 xs >>= _) = _
  rw [h3]
  rfl
theorem mod_ok {i j : Int} (h : 0 < j) : modD (.int i) (.int j) = some (.int (i % j)) := if_pos h
end Mi
/-! pop of one's own list; items of one's own lists and dicts set. -/
namespace Mi
open PySem L2

/-- an expression that takes from one's own list in slot j -/
def denP (Γ : Gm) (j : Nat) (f : Env → Γ.T → Option (PyData × List PyData × Γ.T)) : TE := fun σ H Q => ∃ F ρ t d ds t', Rep Γ F H σ ρ t ∧ f ρ t = some (d, ds, t') ∧
  ∀ v F' H', Rep Γ F' H' σ (ρ.set j (some (.own (.list ds)))) t' → Same F F' → Dq Γ.K F' v d → Q v H'
def mPopAt {T : Type} (j : Nat) (fk : ME T) : Env → T → Option (PyData × List PyData × T) := fun ρ t => match fk ρ t with
  | some (.fro (.int k), t') => match ρ[j]? with
    | some (some (.own (.list ds))) => match seqIndex? k ds.length with
      | some n => match ds[n]? with
        | some d => if -(2 ^ 63) ≤ k ∧ k < 2 ^ 63 then some (d, ds.eraseIdx n, t') else none
        | none => none
      | none => none
    | _ => none
  | _ => none
def mPopEnd {T : Type} (j : Nat) : Env → T → Option (PyData × List PyData × T) := fun ρ t => match ρ[j]? with
  | some (some (.own (.list ds))) => match ds[ds.length - 1]? with
    | some d => some (d, ds.dropLast, t)
    | none => none
  | _ => none
section
variable {Γ : Gm} {X : Cx} {a o : Expr} {fa : ME Γ.T} {pos apos cpos p2 : Pos} {i j : Nat}
theorem pe_popAtD (ho : PE X o (tVar j)) (ha : PE X a (den Γ fa)) (hs1 : starEach [a] X.env = (false, eval a X.env) :: starEach [] X.env := by rfl) (hbase : attributeBase o "pop" X.env (eval o X.env) = eval o X.env := by rfl)
    (hfew : ((backTo cpos (starEach [a] X.env)).all (fun x => !x.1) && (backToKw cpos (keywordEach [] X.env)).all (fun x => x.1.isSome) && decide ([a].length + ([] : List Keyword).length + (if ([] : List Keyword).isEmpty then 0 else 1) < 30)) = true := by rfl)
    (hline : (apos.endLine == cpos.line) = true := by rfl) (hplain : (backTo cpos (starEach [] X.env)).any (·.1) = false := by rfl) : PE X (.Call (.Attribute o "pop" apos) [a] [] cpos) (denP Γ j (mPopAt j fa)) :=
  pe_w (pe_bm PySem.F.plainAttrs_list PySem.F.slot_list_pop PySem.F.type_list_pop mt_popAt ho (pa_cons ha pa_nil hs1) hbase hfew hline hs1 hplain) fun σ H Q => by
    rintro ⟨F, ρ, t, d, ds', t', R, e, q⟩
    unfold mPopAt at e
    split at e
    · rename_i k t1 e1
      split at e
      · rename_i ds e2
        split at e
        · rename_i n e3
          split at e
          · rename_i d0 e4
            split at e
            · rename_i hz
              cases e
              obtain ⟨l, h1, ⟨h2, ws, h3, h4⟩, old, nS⟩ := R.slots j _ e2
              refine ⟨_, h1, .inl ⟨rfl, ws, .of h3⟩, F, ρ, t, _, _, R, e1, fun v F1 H1 R1 x1 k1 => ?_⟩
              obtain ⟨l', g1, ⟨g2, ws', g3, g4⟩, _, _⟩ := R1.slots j _ e2
              rw [h1] at g1
              cases g1
              cases (show Dq Γ.K F1 v (.int k) from k1)
              obtain ⟨y, hy, ky⟩ := g4.get e4
              refine ⟨l, ws', k, n, y, rfl, rfl, g3, hz.1, hz.2, by rw [g4.length]; exact e3, hy, ?_⟩
              exact q y F1 _ (R1.turn e2 h1 ⟨g2, _, upd_same, g4.eraseIdx n⟩) x1.f ky
            · cases e
          · cases e
        · cases e
      · cases e
    · cases e
theorem DqA.dropLast {K : PySem.W.Frag} {F : Hp} {vs : List V} {ds : List PyData} (h : DqA K F vs ds) : DqA K F vs.dropLast ds.dropLast := by
  rw [List.dropLast_eq_take, List.dropLast_eq_take, h.length]
  exact h.take _
variable {f : Env → Γ.T → Option (PyData × List PyData × Γ.T)}
/-- x = ys.pop(..) -/
def mSetP {T : Type} (i j : Nat) (f : Env → T → Option (PyData × List PyData × T)) : MS T := fun ρ t => match f ρ t with
  | some (d, ds, t') => some (.nx ((ρ.set j (some (.own (.list ds)))).set i (some (.fro d))), t')
  | none => none
/-- ys.pop(..) alone -/
def mDropP {T : Type} (j : Nat) (f : Env → T → Option (PyData × List PyData × T)) : MS T := fun ρ t => match f ρ t with
  | some (_, ds, t') => some (.nx (ρ.set j (some (.own (.list ds)))), t')
  | none => none
/-- xs.append(ys.pop(..)) -/
def mAppP {T : Type} (i j : Nat) (f : Env → T → Option (PyData × List PyData × T)) : MS T := fun ρ t => match f ρ t with
  | some (d, ds, t') => match ρ[i]? with
    | some (some (.own (.list es))) => if i ≠ j ∧ es.length < sizeLine then some (.nx ((ρ.set j (some (.own (.list ds)))).set i (some (.own (.list (es ++ [d]))))), t') else none
    | _ => none
  | none => none
theorem ps_appP (ho : PE X o (tVar i)) (ha : PE X a (denP Γ j f)) (hs1 : starEach [a] X.env = (false, eval a X.env) :: starEach [] X.env := by rfl) (hbase : attributeBase o "append" X.env (eval o X.env) = eval o X.env := by rfl)
    (hfew : ((backTo cpos (starEach [a] X.env)).all (fun x => !x.1) && (backToKw cpos (keywordEach [] X.env)).all (fun x => x.1.isSome) && decide ([a].length + ([] : List Keyword).length + (if ([] : List Keyword).isEmpty then 0 else 1) < 30)) = true := by rfl)
    (hline : (apos.endLine == cpos.line) = true := by rfl) (hplain : (backTo cpos (starEach [] X.env)).any (·.1) = false := by rfl)
    (hs : swapsWith (.Call (.Attribute o "append" apos) [a] [] cpos) none pos.line X.env = pure false := by rfl) : PS X (.Expr (.Call (.Attribute o "append" apos) [a] [] cpos) pos) (denS Γ (mAppP i j f)) := by
  refine ps_w (ps_expr (pe_bm PySem.F.plainAttrs_list PySem.F.slot_list_append PySem.F.type_list_append mt_append ho (pa_cons ha pa_nil hs1) hbase hfew hline hs1 hplain) hs) fun D σ H => ?_
  rintro ⟨F, ρ, t, r, t', R, e, q⟩
  unfold mAppP at e
  split at e
  · rename_i d ds t1 e1
    split at e
    · rename_i es e2
      split at e
      · rename_i hz
        cases e
        obtain ⟨p1, h1, ⟨h2, ws, h3, h4⟩, old, nS⟩ := R.slots i _ e2
        refine ⟨_, h1, .inl ⟨rfl, ws, .of h3⟩, F, ρ, t, _, _, _, R, e1, fun v F1 H1 R1 s1 k1 => ?_⟩
        have e3 : (ρ.set j (some (.own (.list ds))))[i]? = some (some (.own (.list es))) := by rw [List.getElem?_set_ne hz.1.symm]; exact e2
        obtain ⟨p2, g1, ⟨g2, ws2, g3, g4⟩, _, _⟩ := R1.slots i _ e3
        rw [h1] at g1
        cases g1
        refine ⟨p1, ws2, v, rfl, rfl, g3, by rw [g4.length]; exact hz.2, ?_⟩
        exact q σ F1 _ (R1.turn e3 h1 ⟨g2, _, upd_same, g4.snoc k1⟩) s1
      · cases e
    · cases e
  · cases e
end
end Mi
/-! What must hold for a mirror to end with something: rules, one for each form. -/
namespace Mi
open PySem L2

/-- the value, read as data -/
def Ed {T : Type} (f : ME T) (ρ : Env) (t : T) (Q : PyData → T → Prop) : Prop := ∃ r t' d, f ρ t = some (r, t') ∧ rd ρ r = some d ∧ Q d t'
/-- the value is kept data -/
def Ef {T : Type} (f : ME T) (ρ : Env) (t : T) (Q : PyData → T → Prop) : Prop := ∃ d t', f ρ t = some (.fro d, t') ∧ Q d t'
def Eg {T R : Type} (f : Env → T → Option (R × T)) (ρ : Env) (t : T) (Q : R → T → Prop) : Prop := ∃ r t', f ρ t = some (r, t') ∧ Q r t'
/-- arguments as a callee takes them -/
def Ea {T : Type} (fs : Env → T → Option (List Rv × T)) (ρ : Env) (t : T) (bs : List Bool) (Q : List PyData → T → Prop) : Prop := ∃ rs t' ds, fs ρ t = some (rs, t') ∧ args ρ bs rs = some ds ∧ Q ds t'
/-- arguments, read -/
def Er {T : Type} (fs : Env → T → Option (List Rv × T)) (ρ : Env) (t : T) (Q : List PyData → T → Prop) : Prop := ∃ rs t' ds, fs ρ t = some (rs, t') ∧ rds ρ rs = some ds ∧ Q ds t'
/-- arguments, kept -/
def Ek {T : Type} (fs : Env → T → Option (List Rv × T)) (ρ : Env) (t : T) (Q : List PyData → T → Prop) : Prop := ∃ rs t' ds, fs ρ t = some (rs, t') ∧ kept rs = some ds ∧ Q ds t'
/-- statements: what holds where it goes on, returns, breaks, continues -/
def Es {T : Type} (m : MS T) (ρ : Env) (t : T) (N : Env → T → Prop) (R : PyData → T → Prop) (B C : Env → T → Prop) : Prop := ∃ r t', m ρ t = some (r, t') ∧ match r with
  | .nx ρ' => N ρ' t'
  | .rt d => R d t'
  | .bk ρ' => B ρ' t'
  | .ct ρ' => C ρ' t'
def dat (ρ : Env) (i : Nat) : Option PyData := match ρ[i]? with
  | some (some (.fro d)) => some d
  | some (some (.own d)) => some d
  | some (some (.bor d)) => some d
  | _ => none
def No {T : Type} : Env → T → Prop := fun _ _ => False
section
variable {T : Type} {ρ ρ' : Env} {t t1 : T} {Q : PyData → T → Prop} {f fa fb fc : ME T} {d : PyData} {i : Nat} {gL : Env → T → Option (PyData × T)} {fs : Env → T → Option (List Rv × T)} {QL : List PyData → T → Prop} {QB : Bool → T → Prop} {c c' : Env → T → Option (Bool × T)}
theorem Ef.mono {Q' : PyData → T → Prop} (h : Ef f ρ t Q) (m : ∀ d t', Q d t' → Q' d t') : Ef f ρ t Q' := by
  obtain ⟨d, t', e, q⟩ := h; exact ⟨d, t', e, m _ _ q⟩
theorem Eg.mono {R : Type} {g : Env → T → Option (R × T)} {Q Q' : R → T → Prop} (h : Eg g ρ t Q) (m : ∀ d t', Q d t' → Q' d t') : Eg g ρ t Q' := by
  obtain ⟨d, t', e, q⟩ := h; exact ⟨d, t', e, m _ _ q⟩
theorem d_f (h : Ef f ρ t Q) : Ed f ρ t Q := by
  obtain ⟨d, t', e, q⟩ := h; exact ⟨_, _, d, e, rfl, q⟩
theorem d_v (h : dat ρ i = some d) (q : Q d t) : Ed (mV i) ρ t Q := by
  unfold dat at h
  split at h
  · rename_i x e; cases h; exact ⟨.fro d, t, d, by unfold mV; rw [e], rfl, q⟩
  · rename_i x e; cases h; exact ⟨.loan i, t, d, by unfold mV; rw [e], by unfold rd; dsimp only; rw [e], q⟩
  · rename_i x e
    cases h
    cases hf : flat d with
    | true => exact ⟨.fro d, t, d, by unfold mV; rw [e]; dsimp only; rw [hf]; rfl, rfl, q⟩
    | false => exact ⟨.loan i, t, d, by unfold mV; rw [e]; dsimp only; rw [hf]; rfl, by unfold rd; dsimp only; rw [e], q⟩
  · cases h
theorem f_v (h : cur ρ i = some d) (q : Q d t) : Ef (mV i) ρ t Q := by
  unfold cur at h
  split at h
  · rename_i x e; cases h; exact ⟨d, t, by unfold mV; rw [e], q⟩
  · rename_i x e
    split at h
    · rename_i hf; cases h; exact ⟨d, t, by unfold mV; rw [e]; dsimp only; rw [hf]; rfl, q⟩
    · cases h
  · cases h
theorem f_c (q : Q d t) : Ef (mC d) ρ t Q := ⟨d, t, rfl, q⟩
theorem f_bin {g : PyData → PyData → Option PyData} (h : Ed fa ρ t fun x t1 => Ed fb ρ t1 fun y t2 => ∃ z, g x y = some z ∧ Q z t2) : Ef (mBin g fa fb) ρ t Q := by
  obtain ⟨r1, t1, x, e1, ex, r2, t2, y, e2, ey, z, ez, q⟩ := h
  exact ⟨z, t2, ev_bin e1 e2 ex ey ez, q⟩
theorem f_un {g : PyData → Option PyData} (h : Ed fa ρ t fun x t1 => ∃ z, g x = some z ∧ Q z t1) : Ef (mUn g fa) ρ t Q := by
  obtain ⟨r1, t1, x, e1, ex, z, ez, q⟩ := h
  refine ⟨z, t1, ?_, q⟩
  unfold mUn
  rw [e1]
  show (rd ρ r1 >>= _) = _
  rw [ex]
  show (g x >>= _) = _
  rw [ez]
  rfl
theorem f_chain {g1 g2 : PyData → PyData → Option PyData} (h : Ed fa ρ t fun x t1 => Ed fb ρ t1 fun y t2 => ∃ b, g1 x y = some (.bool b) ∧ if b = true then Ed fc ρ t2 fun w t3 => ∃ z, g2 y w = some z ∧ Q z t3 else Q (.bool false) t2) : Ef (mChain g1 g2 fa fb fc) ρ t Q := by
  obtain ⟨r1, t1, x, e1, ex, r2, t2, y, e2, ey, b, eb, q⟩ := h
  cases b with
  | true =>
    rw [if_pos rfl] at q
    obtain ⟨r3, t3, w, e3, ew, z, ez, q⟩ := q
    refine ⟨z, t3, ?_, q⟩
    unfold mChain
    rw [e1]
    show (fb ρ t1 >>= _) = _
    rw [e2]
    show (rd ρ r1 >>= _) = _
    rw [ex]
    show (rd ρ r2 >>= _) = _
    rw [ey]
    show (match g1 x y with | some (.bool true) => _ | some (.bool false) => _ | _ => _) = _
    rw [eb]
    show (fc ρ t2 >>= _) = _
    rw [e3]
    show (rd ρ r3 >>= _) = _
    rw [ew]
    show (g2 y w >>= _) = _
    rw [ez]
    rfl
  | false =>
    rw [if_neg (by decide)] at q
    refine ⟨_, t2, ?_, q⟩
    unfold mChain
    rw [e1]
    show (fb ρ t1 >>= _) = _
    rw [e2]
    show (rd ρ r1 >>= _) = _
    rw [ex]
    show (rd ρ r2 >>= _) = _
    rw [ey]
    show (match g1 x y with | some (.bool true) => _ | some (.bool false) => _ | _ => _) = _
    rw [eb]
theorem r_nil (q : QL [] t) : Er (mNil : Env → T → Option (List Rv × T)) ρ t QL := ⟨[], t, [], rfl, rfl, q⟩
theorem r_cons (h : Ed f ρ t fun d t1 => Er fs ρ t1 fun ds t2 => QL (d :: ds) t2) : Er (mCons f fs) ρ t QL := by
  obtain ⟨r, t1, d, e, ed, rs, t2, ds, es, eds, q⟩ := h
  refine ⟨r :: rs, t2, d :: ds, ev_cons e es, ?_, q⟩
  unfold rds
  rw [ed, eds]
  rfl
theorem a_nil (q : QL [] t) : Ea (mNil : Env → T → Option (List Rv × T)) ρ t [] QL := ⟨[], t, [], rfl, rfl, q⟩
theorem a_consT {bs : List Bool} (h : Ed f ρ t fun d t1 => Ea fs ρ t1 bs fun ds t2 => QL (d :: ds) t2) : Ea (mCons f fs) ρ t (true :: bs) QL := by
  obtain ⟨r, t1, d, e, ed, rs, t2, ds, es, eds, q⟩ := h
  refine ⟨r :: rs, t2, d :: ds, ev_cons e es, ?_, q⟩
  unfold args
  rw [show argOf ρ true r = some d from ed, eds]
  rfl
theorem a_consF {bs : List Bool} (h : Ef f ρ t fun d t1 => Ea fs ρ t1 bs fun ds t2 => QL (d :: ds) t2) : Ea (mCons f fs) ρ t (false :: bs) QL := by
  obtain ⟨d, t1, e, rs, t2, ds, es, eds, q⟩ := h
  refine ⟨.fro d :: rs, t2, d :: ds, ev_cons e es, ?_, q⟩
  unfold args
  rw [show argOf ρ false (.fro d) = some d from rfl, eds]
  rfl
theorem k_nil (q : QL [] t) : Ek (mNil : Env → T → Option (List Rv × T)) ρ t QL := ⟨[], t, [], rfl, rfl, q⟩
theorem k_cons (h : Ef f ρ t fun d t1 => Ek fs ρ t1 fun ds t2 => QL (d :: ds) t2) : Ek (mCons f fs) ρ t QL := by
  obtain ⟨d, t1, e, rs, t2, ds, es, eds, q⟩ := h
  refine ⟨.fro d :: rs, t2, d :: ds, ev_cons e es, ?_, q⟩
  unfold kept
  rw [eds]
  rfl
theorem f_call {g : List PyData → Option PyData} (h : Er fs ρ t fun xs t1 => ∃ z, g xs = some z ∧ Q z t1) : Ef (mCall g fs) ρ t Q := by
  obtain ⟨rs, t1, xs, e, ex, z, ez, q⟩ := h
  exact ⟨z, t1, ev_call e ex ez, q⟩
theorem f_callP {bs : List Bool} {m : List PyData → Option PyData} (h : Ea fs ρ t bs fun xs t1 => ∃ z, m xs = some z ∧ Q z t1) : Ef (mCallP bs m fs) ρ t Q := by
  obtain ⟨rs, t1, xs, e, ex, z, ez, q⟩ := h
  exact ⟨z, t1, ev_callP e ex ez, q⟩
/-- by names: the arguments, kept or read, are first those of the order in which they stand -/
theorem pick_args {bs : List Bool} {is : List Nat} : ∀ {rs : List Rv} {ds : List PyData}, rds ρ rs = some ds → (∀ b ∈ bs, b = true) → bs.length = is.length → (∀ i ∈ is, i < rs.length) → args ρ bs (pick is rs) = some (pick is ds) := by
  induction is generalizing bs with
  | nil =>
    intro rs ds e hb hl hi
    cases bs with
    | nil => rfl
    | cons b bs => cases hl
  | cons i is ih =>
    intro rs ds e hb hl hi
    cases bs with
    | nil => cases hl
    | cons b bs =>
      cases hb b (List.mem_cons_self ..)
      have h1 := ih (bs := bs) e (fun b m => hb b (List.mem_cons_of_mem _ m)) (by simpa using hl) (fun j m => hi j (List.mem_cons_of_mem _ m))
      have hlt := hi i (List.mem_cons_self ..)
      have key : ∀ (rs : List Rv) (ds : List PyData) (i : Nat), rds ρ rs = some ds → i < rs.length → ∃ r d, rs[i]? = some r ∧ ds[i]? = some d ∧ rd ρ r = some d := by
        intro rs
        induction rs with
        | nil => intro ds i _ h; cases h
        | cons r rs ih2 =>
          intro ds i e h
          obtain ⟨d, ed, e⟩ := bind_some e
          obtain ⟨ds', eds, e⟩ := bind_some e
          cases e
          cases i with
          | zero => exact ⟨r, d, rfl, rfl, ed⟩
          | succ i => exact ih2 ds' i eds (by simpa using h)
      obtain ⟨r, d, er, ed, erd⟩ := key rs ds i e hlt
      unfold pick at h1 ⊢
      rw [List.filterMap_cons, er, List.filterMap_cons, ed]
      show args ρ (true :: bs) (r :: _) = some (d :: _)
      unfold args
      rw [show argOf ρ true r = some d from erd, h1]
      rfl
theorem f_callPK {bs : List Bool} {is : List Nat} {m : List PyData → Option PyData} (hb : bs.all (fun b => b) = true) (hl : bs.length = is.length) (h : Er fs ρ t fun xs t1 => is.all (fun i => i < xs.length) = true ∧ ∃ z, m (pick is xs) = some z ∧ Q z t1) : Ef (mCallP bs m (mPick is fs)) ρ t Q := by
  obtain ⟨rs, t1, xs, e, ex, hi, z, ez, q⟩ := h
  have hlen : ∀ (rs : List Rv) (xs : List PyData), rds ρ rs = some xs → rs.length = xs.length := by
    intro rs
    induction rs with
    | nil => intro xs e; cases e; rfl
    | cons r rs ih =>
      intro xs e
      obtain ⟨d, ed, e⟩ := bind_some e
      obtain ⟨ds', eds, e⟩ := bind_some e
      cases e
      rw [List.length_cons, List.length_cons, ih _ eds]
  refine ⟨z, t1, ev_callP (rs := pick is rs) ?_ (pick_args ex (fun b m => by simpa using List.all_eq_true.mp hb b m) hl (fun i m => ?_)) ez, q⟩
  · unfold mPick
    rw [e]
  · rw [hlen _ _ ex]
    simpa using List.all_eq_true.mp hi i m
theorem f_keep (h : Eg gL ρ t Q) : Ef (mKeep gL) ρ t Q := by
  obtain ⟨d, t1, e, q⟩ := h
  exact ⟨d, t1, ev_keep e, q⟩
theorem f_tup (h : Ek fs ρ t fun ds t1 => ds.length ≤ sizeLine ∧ Q (.tuple ds) t1) : Ef (mTup fs) ρ t Q := by
  obtain ⟨rs, t1, ds, e, ed, hz, q⟩ := h
  exact ⟨_, t1, ev_tup e ed hz, q⟩
theorem l_lst (h : Ek fs ρ t fun ds t1 => ds.length ≤ sizeLine ∧ Q (.list ds) t1) : Eg (mLst fs) ρ t Q := by
  obtain ⟨rs, t1, ds, e, ed, hz, q⟩ := h
  exact ⟨_, t1, ev_lst e ed hz, q⟩
theorem l_dict {ks : List Key} (h : Ek fs ρ t fun ds t1 => (ds.length = ks.length ∧ ks.Nodup ∧ ks.length ≤ 15) ∧ Q (.dict (mapD ks ds)) t1) : Eg (mDict ks fs) ρ t Q := by
  obtain ⟨rs, t1, ds, e, ed, hz, q⟩ := h
  exact ⟨_, t1, ev_dict e ed hz, q⟩
theorem f_if (h : Eg c ρ t fun b t1 => if b = true then Ef fa ρ t1 Q else Ef fb ρ t1 Q) : Ef (mIf c fa fb) ρ t Q := by
  obtain ⟨b, t1, e, q⟩ := h
  cases b with
  | true => rw [if_pos rfl] at q; obtain ⟨d, t2, e2, q⟩ := q; exact ⟨d, t2, ev_ifT e e2, q⟩
  | false => rw [if_neg (by decide)] at q; obtain ⟨d, t2, e2, q⟩ := q; exact ⟨d, t2, ev_ifF e e2, q⟩
theorem f_andV (h : Ef fa ρ t fun d t1 => ∃ b, d = .bool b ∧ if b = true then Ef fb ρ t1 Q else Q (.bool false) t1) : Ef (mAndV fa fb) ρ t Q := by
  obtain ⟨_, t1, e, b, rfl, q⟩ := h
  cases b with
  | true => rw [if_pos rfl] at q; obtain ⟨d, t2, e2, q⟩ := q; refine ⟨d, t2, ?_, q⟩; unfold mAndV; rw [e]; exact e2
  | false => rw [if_neg (by decide)] at q; refine ⟨_, t1, ?_, q⟩; unfold mAndV; rw [e]; rfl
theorem f_orV (h : Ef fa ρ t fun d t1 => ∃ b, d = .bool b ∧ if b = true then Q (.bool true) t1 else Ef fb ρ t1 Q) : Ef (mOrV fa fb) ρ t Q := by
  obtain ⟨_, t1, e, b, rfl, q⟩ := h
  cases b with
  | false => rw [if_neg (by decide)] at q; obtain ⟨d, t2, e2, q⟩ := q; refine ⟨d, t2, ?_, q⟩; unfold mOrV; rw [e]; exact e2
  | true => rw [if_pos rfl] at q; refine ⟨_, t1, ?_, q⟩; unfold mOrV; rw [e]; rfl
theorem f_notV (h : Ef fa ρ t fun d t1 => ∃ b, d = .bool b ∧ Q (.bool (!b)) t1) : Ef (mNotV fa) ρ t Q := by
  obtain ⟨_, t1, e, b, rfl, q⟩ := h
  refine ⟨_, t1, ?_, q⟩; unfold mNotV; rw [e]
theorem b_test (h : Ef f ρ t fun d t1 => ∃ b, d = .bool b ∧ QB b t1) : Eg (mTest f) ρ t QB := by
  obtain ⟨_, t1, e, b, rfl, q⟩ := h
  exact ⟨b, t1, ev_test e, q⟩
theorem b_and (h : Eg c ρ t fun b t1 => if b = true then Eg c' ρ t1 QB else QB false t1) : Eg (mAnd c c') ρ t QB := by
  obtain ⟨b, t1, e, q⟩ := h
  cases b with
  | true => rw [if_pos rfl] at q; obtain ⟨d, t2, e2, q⟩ := q; exact ⟨d, t2, ev_andT e e2, q⟩
  | false => rw [if_neg (by decide)] at q; exact ⟨_, t1, ev_andF e, q⟩
theorem b_or (h : Eg c ρ t fun b t1 => if b = true then QB true t1 else Eg c' ρ t1 QB) : Eg (mOr c c') ρ t QB := by
  obtain ⟨b, t1, e, q⟩ := h
  cases b with
  | false => rw [if_neg (by decide)] at q; obtain ⟨d, t2, e2, q⟩ := q; exact ⟨d, t2, ev_orF e e2, q⟩
  | true => rw [if_pos rfl] at q; exact ⟨_, t1, ev_orT e, q⟩
theorem b_not (h : Eg c ρ t fun b t1 => QB (!b) t1) : Eg (mNot c) ρ t QB := by
  obtain ⟨b, t1, e, q⟩ := h
  exact ⟨_, t1, ev_not e, q⟩
theorem b_yes (q : QB true t) : Eg (mYes : Env → T → Option (Bool × T)) ρ t QB := ⟨true, t, rfl, q⟩
theorem f_isi {n : String} (h : Ed fa ρ t fun x t1 => Q (.bool (isTy n x)) t1) : Ef (mIsi n fa) ρ t Q := by
  obtain ⟨r1, t1, x, e1, ex, q⟩ := h
  refine ⟨_, t1, ?_, q⟩
  unfold mIsi
  rw [e1]
  show (rd ρ r1 >>= _) = _
  rw [ex]
  rfl
theorem f_sl {l h' : Env → T → Option (Option Int × T)} (h : Ed f ρ t fun x t1 => Eg l ρ t1 fun lo t2 => Eg h' ρ t2 fun hi t3 => ∃ z, sliceD x lo hi = some z ∧ Q z t3) : Ef (mSl f l h') ρ t Q := by
  obtain ⟨r1, t1, x, e1, ex, lo, t2, e2, hi, t3, e3, z, ez, q⟩ := h
  exact ⟨z, t3, ev_sl e1 e2 e3 ex ez, q⟩
theorem o_no {QO : Option Int → T → Prop} (q : QO none t) : Eg (mNoP : Env → T → Option (Option Int × T)) ρ t QO := ⟨none, t, rfl, q⟩
theorem o_part {QO : Option Int → T → Prop} (h : Ef f ρ t fun d t1 => ∃ i, d = .int i ∧ QO (some i) t1) : Eg (mPart f) ρ t QO := by
  obtain ⟨_, t1, e, i, rfl, q⟩ := h
  exact ⟨_, t1, ev_part e, q⟩
theorem i_items (h : Ef f ρ t fun d t1 => ∃ ds, itemsOf d = some ds ∧ QL ds t1) : Eg (mItems f) ρ t QL := by
  obtain ⟨d, t1, e, ds, ed, q⟩ := h
  exact ⟨ds, t1, ev_items e ed, q⟩
theorem i_itemsB {ds : List PyData} (h : ρ[i]? = some (some (.bor d))) (hd : itemsOf d = some ds) (q : QL ds t) : Eg (mItems (mV i)) ρ t QL := by
  refine ⟨ds, t, ?_, q⟩
  cases hf : flat d with
  | true =>
    have e : mV i ρ t = some (.fro d, t) := by unfold mV; rw [h]; dsimp only; rw [hf]; rfl
    exact ev_items e hd
  | false =>
    have e : mV i ρ t = some (.loan i, t) := by unfold mV; rw [h]; dsimp only; rw [hf]; rfl
    unfold mItems
    rw [e]
    dsimp only
    rw [h]
    dsimp only
    rw [hd]
theorem i_enum (h : Eg (mItems f) ρ t fun ds t1 => QL (withIx ds) t1) : Eg (mEnum f) ρ t QL := by
  obtain ⟨ds, t1, e, q⟩ := h
  exact ⟨_, t1, ev_enum e, q⟩
/-- numbers as data -/
def natsD (xs : List Nat) : List PyData := xs.map fun (n : Nat) => PyData.int (n : Int)
theorem i_range1 (h : Ek fs ρ t fun ds t1 => ∃ j : Int, ds = [.int j] ∧ (-(2 ^ 62) ≤ j ∧ j < 2 ^ 62) ∧ QL (natsD (List.range j.toNat)) t1) : Eg (mRange1 fs) ρ t QL := by
  obtain ⟨rs, t1, _, e, ek, j, rfl, hj, q⟩ := h
  have : rs = [.fro (.int j)] := by
    cases rs with
    | nil => cases ek
    | cons r rs =>
      cases r with
      | fro d =>
        unfold kept at ek
        cases z : kept rs with
        | none => rw [z] at ek; cases ek
        | some l =>
          rw [z] at ek
          cases ek
          cases rs with
          | nil => rfl
          | cons r rs =>
            cases r with
            | fro d => unfold kept at z; cases z2 : kept rs with | none => rw [z2] at z; cases z | some l => rw [z2] at z; cases z
            | loan i => cases z
            | tray k => cases z
      | loan i => cases ek
      | tray k => cases ek
  subst this
  exact ⟨_, t1, ev_range1 e hj, q⟩
theorem v_rv {QV : Val → T → Prop} (h : Ef f ρ t fun d t1 => QV (.fro d) t1) : Eg (mRv f) ρ t QV := by
  obtain ⟨d, t1, e, q⟩ := h
  exact ⟨_, t1, ev_rv e, q⟩
theorem v_new {QV : Val → T → Prop} (h : Eg gL ρ t fun d t1 => QV (.own d) t1) : Eg (mNew gL) ρ t QV := by
  obtain ⟨d, t1, e, q⟩ := h
  exact ⟨_, t1, ev_new e, q⟩
theorem vs_nil {QV : List Val → T → Prop} (q : QV [] t) : Eg (mNilV : Env → T → Option (List Val × T)) ρ t QV := ⟨[], t, rfl, q⟩
theorem vs_cons {QV : List Val → T → Prop} {g : Env → T → Option (Val × T)} {gs : Env → T → Option (List Val × T)} (h : Eg g ρ t fun v t1 => Eg gs ρ t1 fun vs t2 => QV (v :: vs) t2) : Eg (mConsV g gs) ρ t QV := by
  obtain ⟨v, t1, e, vs, t2, es, q⟩ := h
  exact ⟨_, t2, ev_consV e es, q⟩
theorem l_listL (h : Er fs ρ t fun xs t1 => ∃ ds, (xs = [.list ds] ∨ xs = [.tuple ds]) ∧ Q (.list ds) t1) : Eg (mListL fs) ρ t Q := by
  obtain ⟨rs, t1, xs, e, ex, ds, ed, q⟩ := h
  refine ⟨_, t1, ?_, q⟩
  unfold mListL
  rw [e]
  show (rds ρ rs >>= _) = _
  rw [ex]
  rcases ed with rfl | rfl <;> rfl

/-! ### statements -/
variable {N : Env → T → Prop} {R : PyData → T → Prop} {B C : Env → T → Prop} {m m' : MS T}
theorem Es.mono {N' : Env → T → Prop} {R' : PyData → T → Prop} {B' C' : Env → T → Prop} (h : Es m ρ t N R B C) (hN : ∀ ρ t, N ρ t → N' ρ t) (hR : ∀ d t, R d t → R' d t) (hB : ∀ ρ t, B ρ t → B' ρ t) (hC : ∀ ρ t, C ρ t → C' ρ t) : Es m ρ t N' R' B' C' := by
  obtain ⟨r, t', e, q⟩ := h
  refine ⟨r, t', e, ?_⟩
  cases r with
  | nx ρ' => exact hN _ _ q
  | rt d => exact hR _ _ q
  | bk ρ' => exact hB _ _ q
  | ct ρ' => exact hC _ _ q
theorem s_set_env {v : Option Val} (e : ρ.set i v = ρ') (h : Es m ρ' t N R B C) : Es m (ρ.set i v) t N R B C := e ▸ h
theorem s_env (e : ρ = ρ') (h : Es m ρ' t N R B C) : Es m ρ t N R B C := e ▸ h
theorem s_skip (h : N ρ t) : Es mSkip ρ t N R B C := ⟨.nx ρ, t, rfl, h⟩
theorem s_seq (h : Es m ρ t (fun ρ1 t1 => Es m' ρ1 t1 N R B C) R B C) : Es (mSeq m m') ρ t N R B C := by
  obtain ⟨r, t1, e, q⟩ := h
  cases r with
  | nx ρ1 => obtain ⟨r2, t2, e2, q2⟩ := q; exact ⟨r2, t2, (seq_nx e).trans e2, q2⟩
  | rt d => exact ⟨.rt d, t1, seq_rt e, q⟩
  | bk ρ1 => refine ⟨.bk ρ1, t1, ?_, q⟩; unfold mSeq; rw [e]
  | ct ρ1 => refine ⟨.ct ρ1, t1, ?_, q⟩; unfold mSeq; rw [e]
theorem s_break (h : B ρ t) : Es mBreak ρ t N R B C := ⟨.bk ρ, t, rfl, h⟩
theorem s_cont (h : C ρ t) : Es mCont ρ t N R B C := ⟨.ct ρ, t, rfl, h⟩
theorem s_if (h : Eg c ρ t fun b t1 => if b = true then Es m ρ t1 N R B C else Es m' ρ t1 N R B C) : Es (mIfS c m m') ρ t N R B C := by
  obtain ⟨b, t1, e, q⟩ := h
  cases b with
  | true => rw [if_pos rfl] at q; obtain ⟨r, t2, e2, q⟩ := q; exact ⟨r, t2, (if_t e).trans e2, q⟩
  | false => rw [if_neg (by decide)] at q; obtain ⟨r, t2, e2, q⟩ := q; exact ⟨r, t2, (if_f e).trans e2, q⟩
theorem s_drop (h : Ed f ρ t fun _ t1 => N ρ t1) : Es (mDrop f) ρ t N R B C := by
  obtain ⟨r, t1, d, e, _, q⟩ := h
  refine ⟨.nx ρ, t1, ?_, q⟩
  unfold mDrop
  rw [e]
theorem s_ret (h : Ef f ρ t R) : Es (mRet f) ρ t N R B C := by
  obtain ⟨d, t1, e, q⟩ := h
  exact ⟨.rt d, t1, ev_ret e, q⟩
theorem s_retO (h : ρ[i]? = some (some (.own d))) (q : R d t) : Es (mRet (mV i)) ρ t N R B C := by
  refine ⟨.rt d, t, ev_retO (j := i) ?_ h, q⟩
  unfold mV
  rw [h]
theorem s_retN (q : R .none t) : Es (mRetN) ρ t N R B C := ⟨.rt .none, t, rfl, q⟩
theorem s_set {g : Env → T → Option (Val × T)} (h : Eg g ρ t fun v t1 => N (ρ.set i (some v)) t1) : Es (mSet i g) ρ t N R B C := by
  obtain ⟨v, t1, e, q⟩ := h
  exact ⟨_, t1, ev_set e, q⟩
theorem s_par {j : Nat} {gs : Env → T → Option (List Val × T)} (h : Eg gs ρ t fun vs t1 => ∃ v w, vs = [v, w] ∧ N ((ρ.set i (some v)).set j (some w)) t1) : Es (mPar i j gs) ρ t N R B C := by
  obtain ⟨_, t1, e, v, w, rfl, q⟩ := h
  exact ⟨_, t1, ev_par e, q⟩
theorem s_pars {is : List Nat} {gs : Env → T → Option (List Val × T)} (h : Eg gs ρ t fun vs t1 => (vs.length ≤ sizeLine ∧ vs.length = is.length) ∧ ∃ ρ1, setAll ρ is vs = some ρ1 ∧ N ρ1 t1) : Es (mPars is gs) ρ t N R B C := by
  obtain ⟨vs, t1, e, hz, ρ1, e1, q⟩ := h
  refine ⟨.nx ρ1, t1, ?_, q⟩
  unfold mPars
  rw [e]
  dsimp only
  rw [if_pos hz, e1]
theorem s_asg {g : PyData → Env → Option Env} (h : Ef f ρ t fun d t1 => ∃ ρ1, g d ρ = some ρ1 ∧ N ρ1 t1) : Es (mAsg f g) ρ t N R B C := by
  obtain ⟨d, t1, e, ρ1, e1, q⟩ := h
  exact ⟨_, t1, ev_asg e e1, q⟩
theorem s_app (h : Ef f ρ t fun d t1 => ∃ ds, ρ[i]? = some (some (.own (.list ds))) ∧ ds.length < sizeLine ∧ N (ρ.set i (some (.own (.list (ds ++ [d]))))) t1) : Es (mApp i f) ρ t N R B C := by
  obtain ⟨d, t1, e, ds, e1, hz, q⟩ := h
  exact ⟨_, t1, ev_app e e1 hz, q⟩
theorem s_aug {g : PyData → PyData → Option PyData} {x : PyData} (hx : cur ρ i = some x) (h : Ed f ρ t fun y t1 => ∃ z, g x y = some z ∧ N (ρ.set i (some (.fro z))) t1) : Es (mAug i g f) ρ t N R B C := by
  obtain ⟨r, t1, y, e, ey, z, ez, q⟩ := h
  exact ⟨_, t1, ev_aug hx e ey ez, q⟩
theorem s_end (h : Es m ρ t (fun ρ1 t1 => ∃ d, ρ1[i]? = some (some (.own d)) ∧ N (ρ1.set i (some (.fro d))) t1) R B C) : Es (mEnd i m) ρ t N R B C := by
  obtain ⟨r, t1, e, q⟩ := h
  cases r with
  | nx ρ1 =>
    obtain ⟨d, e2, q⟩ := q
    refine ⟨.nx _, t1, ?_, q⟩
    unfold mEnd
    rw [e]
    dsimp only
    rw [e2]
  | rt d => refine ⟨.rt d, t1, ?_, q⟩; unfold mEnd; rw [e]
  | bk ρ1 => refine ⟨.bk ρ1, t1, ?_, q⟩; unfold mEnd; rw [e]
  | ct ρ1 => refine ⟨.ct ρ1, t1, ?_, q⟩; unfold mEnd; rw [e]
/-- a for: P before each turn -/
theorem s_for {its : Env → T → Option (List PyData × T)} {g : PyData → Env → Option Env} {body : MS T} (P : Nat → Env → T → Prop)
    (hi : Eg its ρ t fun ds t1 => P 0 ρ t1 ∧ (∀ j d ρ t, ds[j]? = some d → P j ρ t → ∃ ρ1, g d ρ = some ρ1 ∧ Es body ρ1 t (P (j + 1)) R N (P (j + 1))) ∧ ∀ ρ t, P ds.length ρ t → N ρ t) : Es (mFor its g body) ρ t N R B C := by
  obtain ⟨ds, t1, e, h0, hs, hN⟩ := hi
  have key : ∀ (es : List PyData) (j : Nat) (ρ : Env) (t : T), ds.drop j = es → j ≤ ds.length → P j ρ t → Es (forL g body es) ρ t N R B C := by
    intro es
    induction es with
    | nil =>
      intro j ρ t hd hj hp
      have : j = ds.length := by
        have := congrArg List.length hd
        rw [List.length_drop, List.length_nil] at this
        omega
      subst this
      exact ⟨.nx ρ, t, rfl, hN _ _ hp⟩
    | cons d es ih =>
      intro j ρ t hd hj hp
      have hjl : j < ds.length := by
        have := congrArg List.length hd
        rw [List.length_drop, List.length_cons] at this
        omega
      have hdj : ds[j]? = some d := by
        have := congrArg List.head? hd
        rw [List.head?_drop, List.head?_cons] at this
        exact this
      have hd2 : ds.drop (j + 1) = es := by
        have := congrArg List.tail hd
        rw [List.tail_drop, List.tail_cons] at this
        exact this
      obtain ⟨ρ1, e1, r, t2, e2, q⟩ := hs j d ρ t hdj hp
      have un : forL g body (d :: es) ρ t = (match body ρ1 t with
        | some (.nx ρ2, t2) => forL g body es ρ2 t2
        | some (.ct ρ2, t2) => forL g body es ρ2 t2
        | some (.bk ρ2, t2) => some (.nx ρ2, t2)
        | some (.rt x, t2) => some (.rt x, t2)
        | none => none) := by
        show (match g d ρ with
          | none => none
          | some ρ1 => match body ρ1 t with
            | some (.nx ρ2, t2) => forL g body es ρ2 t2
            | some (.ct ρ2, t2) => forL g body es ρ2 t2
            | some (.bk ρ2, t2) => some (.nx ρ2, t2)
            | some (.rt x, t2) => some (.rt x, t2)
            | none => none) = _
        rw [e1]
      rw [e2] at un
      cases r with
      | nx ρ2 => obtain ⟨r3, t3, e3, q3⟩ := ih (j + 1) ρ2 t2 hd2 hjl q; exact ⟨r3, t3, un.trans e3, q3⟩
      | rt x => exact ⟨.rt x, t2, un, q⟩
      | bk ρ2 => exact ⟨.nx ρ2, t2, un, q⟩
      | ct ρ2 => obtain ⟨r3, t3, e3, q3⟩ := ih (j + 1) ρ2 t2 hd2 hjl q; exact ⟨r3, t3, un.trans e3, q3⟩
  obtain ⟨r, t2, e2, q⟩ := key ds 0 ρ t1 rfl (Nat.zero_le _) h0
  refine ⟨r, t2, ?_, q⟩
  unfold mFor
  rw [e]
  exact e2
/-- a while: P before each turn, of which at most n come -/
theorem s_while {n : Nat} (P : Nat → Env → T → Prop) (h0 : P n ρ t)
    (hs : ∀ k ρ t, P k ρ t → Eg c ρ t fun b t1 => if b = true then ∃ k', k = k' + 1 ∧ Es m ρ t1 (P k') R N (P k') else 0 < k ∧ N ρ t1) : Es (whileN c m n) ρ t N R B C := by
  induction n generalizing ρ t with
  | zero =>
    obtain ⟨b, t1, e, q⟩ := hs 0 ρ t h0
    cases b with
    | true => rw [if_pos rfl] at q; obtain ⟨k', z, _⟩ := q; cases z
    | false => rw [if_neg (by decide)] at q; exact absurd q.1 (by decide)
  | succ n ih =>
    obtain ⟨b, t1, e, q⟩ := hs (n + 1) ρ t h0
    cases b with
    | true =>
      rw [if_pos rfl] at q
      obtain ⟨k', z, r, t2, e2, q⟩ := q
      cases z
      cases r with
      | nx ρ2 =>
        obtain ⟨r3, t3, e3, q3⟩ := ih q
        refine ⟨r3, t3, ?_, q3⟩
        unfold whileN; rw [e]; dsimp only; rw [e2]; exact e3
      | rt x =>
        refine ⟨.rt x, t2, ?_, q⟩
        unfold whileN; rw [e]; dsimp only; rw [e2]
      | bk ρ2 =>
        refine ⟨.nx ρ2, t2, ?_, q⟩
        unfold whileN; rw [e]; dsimp only; rw [e2]
      | ct ρ2 =>
        obtain ⟨r3, t3, e3, q3⟩ := ih q
        refine ⟨r3, t3, ?_, q3⟩
        unfold whileN; rw [e]; dsimp only; rw [e2]; exact e3
    | false =>
      rw [if_neg (by decide)] at q
      refine ⟨.nx ρ, t1, ?_, q.2⟩
      unfold whileN; rw [e]
/-- a comprehension, item by item -/
theorem l_lc {its : Env → T → Option (List PyData × T)} {g : PyData → Env → Option Env} {vs : List Nat} (P : Nat → List PyData → T → Prop)
    (hi : Eg its ρ t fun ds t1 => ds.length ≤ sizeLine ∧ P 0 [] t1 ∧ (∀ j d acc t, ds[j]? = some d → P j acc t → ∃ ρ1, g d (wipeR ρ vs) = some ρ1 ∧ Eg c ρ1 t fun b t1 => if b = true then Ef f ρ1 t1 fun x t2 => P (j + 1) (acc ++ [x]) t2 else P (j + 1) acc t1) ∧ ∀ acc t, P ds.length acc t → Q (.list acc) t) : Eg (mLc its g c f vs) ρ t Q := by
  obtain ⟨ds, t1, e, hz, h0, hs, hN⟩ := hi
  have key : ∀ (es : List PyData) (j : Nat) (acc : List PyData) (t : T), ds.drop j = es → j ≤ ds.length → acc.length ≤ j → P j acc t → ∃ out t', lcL g c f (wipeR ρ vs) es acc t = some (out, t') ∧ P ds.length out t' := by
    intro es
    induction es with
    | nil =>
      intro j acc t hd hj ha hp
      have : j = ds.length := by
        have := congrArg List.length hd
        rw [List.length_drop, List.length_nil] at this
        omega
      subst this
      exact ⟨acc, t, rfl, hp⟩
    | cons d es ih =>
      intro j acc t hd hj ha hp
      have hjl : j < ds.length := by
        have := congrArg List.length hd
        rw [List.length_drop, List.length_cons] at this
        omega
      have hdj : ds[j]? = some d := by
        have := congrArg List.head? hd
        rw [List.head?_drop, List.head?_cons] at this
        exact this
      have hd2 : ds.drop (j + 1) = es := by
        have := congrArg List.tail hd
        rw [List.tail_drop, List.tail_cons] at this
        exact this
      obtain ⟨ρ1, e1, b, t2, e2, q⟩ := hs j d acc t hdj hp
      cases b with
      | true =>
        rw [if_pos rfl] at q
        obtain ⟨x, t3, e3, q⟩ := q
        obtain ⟨out, t4, e4, q4⟩ := ih (j + 1) (acc ++ [x]) t3 hd2 hjl (by rw [List.length_append, List.length_singleton]; omega) q
        refine ⟨out, t4, ?_, q4⟩
        unfold lcL; rw [e1]; dsimp only; rw [e2]; dsimp only; rw [e3]; dsimp only; rw [if_pos (by omega)]; exact e4
      | false =>
        rw [if_neg (by decide)] at q
        obtain ⟨out, t4, e4, q4⟩ := ih (j + 1) acc t2 hd2 hjl (by omega) q
        refine ⟨out, t4, ?_, q4⟩
        unfold lcL; rw [e1]; dsimp only; rw [e2]; exact e4
  obtain ⟨out, t2, e2, q⟩ := key ds 0 [] t1 rfl (Nat.zero_le _) (Nat.le_refl _) h0
  refine ⟨_, t2, ?_, hN _ _ q⟩
  unfold mLc
  rw [e]
  dsimp only
  rw [e2]
theorem ex_bool {b : Bool} {P : Bool → Prop} (q : P b) : ∃ c, PyData.bool b = .bool c ∧ P c := ⟨b, rfl, q⟩
theorem ex_int {b : Int} {P : Int → Prop} (q : P b) : ∃ c, PyData.int b = .int c ∧ P c := ⟨b, rfl, q⟩
theorem ex_itL {ds : List PyData} {P : List PyData → Prop} (q : P ds) : ∃ es, itemsOf (.list ds) = some es ∧ P es := ⟨ds, rfl, q⟩
theorem ex_itT {ds : List PyData} {P : List PyData → Prop} (q : P ds) : ∃ es, itemsOf (.tuple ds) = some es ∧ P es := ⟨ds, rfl, q⟩
theorem ex_rng {b : Int} {P : Int → Prop} (q : P b) : ∃ c, [PyData.int b] = [.int c] ∧ P c := ⟨b, rfl, q⟩
theorem ex_two {a b : Val} {P : Val → Val → Prop} (q : P a b) : ∃ v w, [a, b] = [v, w] ∧ P v w := ⟨a, b, rfl, q⟩
theorem ex_lstL {ds : List PyData} {P : List PyData → Prop} (q : P ds) : ∃ es, ([PyData.list ds] = [.list es] ∨ [PyData.list ds] = [.tuple es]) ∧ P es := ⟨ds, .inl rfl, q⟩
theorem ex_lstT {ds : List PyData} {P : List PyData → Prop} (q : P ds) : ∃ es, ([PyData.tuple ds] = [.list es] ∨ [PyData.tuple ds] = [.tuple es]) ∧ P es := ⟨ds, .inr rfl, q⟩
theorem ex_env {o : Option Env} {ρ1 : Env} {P : Env → Prop} (h : o = some ρ1) (q : P ρ1) : ∃ ρ1, o = some ρ1 ∧ P ρ1 := ⟨ρ1, h, q⟩
theorem ex_own {o : Option (Option Val)} {ds : List PyData} {P : List PyData → Prop} (h : o = some (some (.own (.list ds)))) (q : P ds) : ∃ ds, o = some (some (.own (.list ds))) ∧ P ds := ⟨ds, h, q⟩
theorem op_ok {o : Option PyData} {z : PyData} {P : PyData → Prop} (h : o = some z) (q : P z) : ∃ z, o = some z ∧ P z := ⟨z, h, q⟩
theorem op_okT {T : Type} {o : Option (PyData × T)} {z : PyData} {t : T} {P : PyData → T → Prop} (h : o = some (z, t)) (q : P z t) : ∃ z t, o = some (z, t) ∧ P z t := ⟨z, t, h, q⟩
theorem if_yes {b : Bool} {P P' : Prop} (h : b = true) (q : P) : if b = true then P else P' := by rw [if_pos h]; exact q
theorem if_no {b : Bool} {P P' : Prop} (h : b = false) (q : P') : if b = true then P else P' := by rw [if_neg (by rw [h]; decide)]; exact q
theorem if_both {b : Bool} {P P' : Prop} (q : b = true → P) (q' : b = false → P') : if b = true then P else P' := by
  cases b with
  | true => exact q rfl
  | false => exact q' rfl
end
theorem f_callT {bs : List Bool} {m : Tr → List PyData → Option (PyData × Tr)} {fs : Env → Tr → Option (List Rv × Tr)} {ρ : Env} {t : Tr} {Q : PyData → Tr → Prop} {i : Nat} (hi : ρ[i]? = some (some (.tray 0)))
    (h : Ea fs ρ t bs fun xs t1 => ∃ z t2, m t1 xs = some (z, t2) ∧ Q z t2) : Ef (mCallT bs m (mCons (mV i) fs)) ρ t Q := by
  obtain ⟨rs, t1, xs, e, ex, z, t2, ez, q⟩ := h
  have e0 : mV i ρ t = some (.tray 0, t) := by unfold mV; rw [hi]
  exact ⟨z, t2, ev_callT (ev_cons e0 e) ex ez, q⟩
theorem fun_ok {n : Nat} {bs : List Bool} {body : MS Unit} {ds : List PyData} {d : PyData} (h : Es body (entry n bs ds) () No (fun x _ => x = d) No No) : mFun n bs body ds = some d := by
  obtain ⟨r, t, e, q⟩ := h
  unfold mFun
  rw [e]
  cases r with
  | nx ρ => exact q.elim
  | rt x => cases (show x = d from q); rfl
  | bk ρ => exact q.elim
  | ct ρ => exact q.elim
theorem fun_okP {n : Nat} {bs : List Bool} {body : MS Unit} {ds : List PyData} {P : PyData → Prop} (h : Es body (entry n bs ds) () No (fun x _ => P x) No No) : ∃ d, mFun n bs body ds = some d ∧ P d := by
  obtain ⟨r, t, e, q⟩ := h
  unfold mFun
  rw [e]
  cases r with
  | nx ρ => exact q.elim
  | rt x => exact ⟨x, rfl, q⟩
  | bk ρ => exact q.elim
  | ct ρ => exact q.elim
theorem funT_ok {n : Nat} {bs : List Bool} {body : MS Tr} {ds : List PyData} {t : Tr} {P : PyData → Tr → Prop} (h : Es body (entryT n bs ds) t No P No No) : ∃ d t', mFunT n bs body t ds = some (d, t') ∧ P d t' := by
  obtain ⟨r, t', e, q⟩ := h
  unfold mFunT
  rw [e]
  cases r with
  | nx ρ => exact q.elim
  | rt x => exact ⟨x, t', rfl, q⟩
  | bk ρ => exact q.elim
  | ct ρ => exact q.elim
/-- what is taken from one's own list -/
def Ep {T : Type} (f : Env → T → Option (PyData × List PyData × T)) (ρ : Env) (t : T) (Q : PyData → List PyData → T → Prop) : Prop := ∃ d ds t', f ρ t = some (d, ds, t') ∧ Q d ds t'
section
variable {T : Type} {ρ : Env} {t : T} {i j : Nat} {fk : ME T} {N : Env → T → Prop} {R : PyData → T → Prop} {B C : Env → T → Prop} {f : Env → T → Option (PyData × List PyData × T)} {QP : PyData → List PyData → T → Prop}
theorem p_at (h : Ef fk ρ t fun d t1 => ∃ ds, ρ[j]? = some (some (.own (.list ds))) ∧ ∃ k : Nat, d = .int (k : Int) ∧ k < 4611686018427387904 ∧ ∃ x, ds[k]? = some x ∧ QP x (ds.eraseIdx k) t1) : Ep (mPopAt j fk) ρ t QP := by
  obtain ⟨d, t1, e, ds, e2, k, rfl, hk, x, ex, q⟩ := h
  refine ⟨x, _, t1, ?_, q⟩
  unfold mPopAt
  rw [e]
  dsimp only
  rw [e2]
  dsimp only
  have hl : k < ds.length := (List.getElem?_eq_some_iff.mp ex).1
  have es : seqIndex? (k : Int) ds.length = some k := by
    unfold seqIndex?
    simp
    omega
  rw [es]
  dsimp only
  rw [ex]
  dsimp only
  rw [if_pos ⟨by omega, by omega⟩]
theorem p_end (h : ∃ ds, ρ[j]? = some (some (.own (.list ds))) ∧ ∃ x, ds[ds.length - 1]? = some x ∧ QP x ds.dropLast t) : Ep (mPopEnd j : Env → T → _) ρ t QP := by
  obtain ⟨ds, e2, x, ex, q⟩ := h
  refine ⟨x, _, t, ?_, q⟩
  unfold mPopEnd
  rw [e2]
  dsimp only
  rw [ex]
theorem s_setP (h : Ep f ρ t fun d ds t1 => N ((ρ.set j (some (.own (.list ds)))).set i (some (.fro d))) t1) : Es (mSetP i j f) ρ t N R B C := by
  obtain ⟨d, ds, t1, e, q⟩ := h
  refine ⟨.nx _, t1, ?_, q⟩
  unfold mSetP
  rw [e]
theorem s_dropP (h : Ep f ρ t fun _ ds t1 => N (ρ.set j (some (.own (.list ds)))) t1) : Es (mDropP j f) ρ t N R B C := by
  obtain ⟨d, ds, t1, e, q⟩ := h
  refine ⟨.nx _, t1, ?_, q⟩
  unfold mDropP
  rw [e]
theorem s_appP (h : Ep f ρ t fun d ds t1 => ∃ es, ρ[i]? = some (some (.own (.list es))) ∧ (i ≠ j ∧ es.length < sizeLine) ∧ N ((ρ.set j (some (.own (.list ds)))).set i (some (.own (.list (es ++ [d]))))) t1) : Es (mAppP i j f) ρ t N R B C := by
  obtain ⟨d, ds, t1, e, es, e2, hz, q⟩ := h
  refine ⟨.nx _, t1, ?_, q⟩
  unfold mAppP
  rw [e]
  dsimp only
  rw [e2]
  dsimp only
  rw [if_pos hz]
end
end Mi
/-! zip; xs[::-1]. -/
namespace Mi
open PySem L2

/-- what may be walked: kept, or lent -/
def still (ρ : Env) : Rv → Option PyData
  | .fro d => some d
  | .loan j => match ρ[j]? with
    | some (some (.bor d)) => some d
    | _ => none
  | _ => none
theorem still_ok {Γ : Gm} {ρ : Env} {t : Γ.T} {r : Rv} {d : PyData} (e : still ρ r = some d) {F1 H1 : Hp} {σ : L2.St} {v : V} (R1 : Rep Γ F1 H1 σ ρ t) (k1 : RvOk Γ F1 σ v r) :
    Dq Γ.K F1 v d ∨ ∃ a o, v = .ref a ∧ Own Γ.K F1 H1 a d ∧ a ∉ Γ.S ∧ Γ.F0 a = none ∧ Γ.H0 a = some o := by
  cases r with
  | fro d' => cases e; exact .inl k1
  | tray k => cases e
  | loan j =>
    unfold still at e
    dsimp only at e
    split at e
    · rename_i d' e3
      cases e
      obtain ⟨u, z1, z2⟩ := R1.slots j _ e3
      have k1 : σ[j]? = some (some v) := k1
      rw [k1] at z1
      cases z1
      exact z2
    · cases e
/-- pairs of items -/
def zipL (xs ys : List PyData) : List PyData := List.zipWith (fun x y => .tuple [x, y]) xs ys
theorem zipL_at {xs ys : List PyData} {i : Nat} {d : PyData} (h : (zipL xs ys)[i]? = some d) : ∃ x y, xs[i]? = some x ∧ ys[i]? = some y ∧ d = .tuple [x, y] := by
  unfold zipL at h
  rw [List.getElem?_zipWith] at h
  cases ex : xs[i]? with
  | none => rw [ex] at h; cases h
  | some x =>
    cases ey : ys[i]? with
    | none => rw [ex, ey] at h; cases h
    | some y => rw [ex, ey] at h; cases h; exact ⟨x, y, rfl, rfl, rfl⟩
theorem zipL_len (xs ys : List PyData) : (zipL xs ys).length = min xs.length ys.length := by
  unfold zipL
  rw [List.length_zipWith]
def mZip {T : Type} (fa fb : ME T) : Env → T → Option (List PyData × T) := fun ρ t => do
  let (r1, t1) ← fa ρ t
  let (r2, t2) ← fb ρ t1
  let x ← still ρ r1
  let y ← still ρ r2
  match x, y with
  | .list xs, .list ys => some (zipL xs ys, t2)
  | .tuple xs, .tuple ys => some (zipL xs ys, t2)
  | _, _ => none
section
variable {Γ : Gm} {X : Cx} {a b : Expr} {pos p : Pos} {fa fb : ME Γ.T}
theorem pi_zipD {elts : List Expr} {kk : Nat} {tpos : Pos} (hK : X.K = Γ.K) (hg : Gl X "zip") (hm : X.mg "zip" = none) (ha : PE X a (den Γ fa)) (hb : PE X b (den Γ fb))
    (hs : starEach [a, b] X.env = (false, eval a X.env) :: starEach [b] X.env := by rfl) (hs2 : starEach [b] X.env = (false, eval b X.env) :: starEach [] X.env := by rfl) (hpl : (backTo pos (starEach [b] X.env)).any (·.1) = false := by rfl) :
    PI X (.Tuple elts kk tpos) (.Call (.Name "zip" p) [a, b] [] pos) (denI Γ (mZip fa fb)) := pi_w (RZ.pi_zipA hg hm (pa_cons ha (pa_cons hb pa_nil hs2) hs) hs hpl) fun σ H Rr => by
  rintro ⟨F, ρ, t, items, t', R, e, q⟩
  obtain ⟨⟨r1, t1⟩, e1, e⟩ := bind_some e
  obtain ⟨⟨r2, t2⟩, e2, e⟩ := bind_some e
  obtain ⟨x, ex, e⟩ := bind_some e
  obtain ⟨y, ey, e⟩ := bind_some e
  have fin : ∀ {F' H' : Hp} {t3 : Γ.T} {x y : PyData} {u v : V}, Fin Γ F' H' t3 → Dq Γ.K F' u x → Dq Γ.K F' v y → ∀ T, H' T = none → ∃ F'', Ext [] F' H' F'' (upd H' T (.tup [u, v])) ∧ Dq Γ.K F'' (.ref T) (.tuple [x, y]) := fun {F' H' t3 x y u v} R' k k' T hT =>
    ⟨_, Ext.keep R'.ex hT, .tup (.of upd_same) (.cons (k.mono (Ext.keep (S := []) R'.ex hT).f) (.cons (k'.mono (Ext.keep (S := []) R'.ex hT).f) .nil))⟩
  refine ⟨F, ρ, t, r1, t1, R, e1, fun v1 F1 H1 R1 x1 k1 => ⟨F1, ρ, t1, r2, t2, R1, e2, fun v2 F2 H2 R2 x2 k2 => ?_⟩⟩
  have s1 := still_ok ex R2 (k1.mono x2.f)
  have s2 := still_ok ey R2 k2
  split at e
  · rename_i xs ys _
    cases e
    obtain ⟨q1, vs1, rfl, g1, j1⟩ := sq_of R2.ex (stays (Same.refl F2) R2.toFin s1 R2.toFin) (show itemsOf (.list xs) = some xs from rfl)
    obtain ⟨q2, vs2, rfl, g2, j2⟩ := sq_of R2.ex (stays (Same.refl F2) R2.toFin s2 R2.toFin) (show itemsOf (.list ys) = some ys from rfl)
    rcases j1 with ⟨_, j1⟩ | ⟨⟨es, z⟩, _⟩
    · rcases j2 with ⟨_, j2⟩ | ⟨⟨es, z⟩, _⟩
      · rw [hK]
        refine ⟨q1, q2, vs1, vs2, rfl, .inl ⟨j1, j2, q F2 H2 _ R2 (x1.then x2 R2) fun i F' H' t3 s R' => ?_⟩⟩
        obtain ⟨p1, us1, z1, h1, hq1⟩ := sq_of R'.ex (stays s R' s1 R2.toFin) (show itemsOf (.list xs) = some xs from rfl)
        obtain ⟨p2, us2, z2, h2, hq2⟩ := sq_of R'.ex (stays s R' s2 R2.toFin) (show itemsOf (.list ys) = some ys from rfl)
        cases z1
        cases z2
        rcases hq1 with ⟨_, hq1⟩ | ⟨⟨es, z⟩, _⟩
        · rcases hq2 with ⟨_, hq2⟩ | ⟨⟨es, z⟩, _⟩
          · refine ⟨fun d hd => ?_, fun hi => ⟨us1, us2, hq1, hq2, ?_⟩⟩
            · obtain ⟨a, b, ha, hb, rfl⟩ := zipL_at hd
              obtain ⟨u, hu, ku⟩ := h1.get ha
              obtain ⟨w, hw, kw⟩ := h2.get hb
              refine ⟨⟨us1, us2, u, w, hq1, hq2, hu, hw⟩, fun x' H'' yl => ?_⟩
              obtain ⟨T, u', w', rfl, hT, rfl, y1, y2⟩ := yl
              have e1 := y1 _ hq1
              have e2 := y2 _ hq2
              rw [hu] at e1
              rw [hw] at e2
              cases e1
              cases e2
              exact fin R' ku kw T hT
            · rw [zipL_len] at hi
              rw [h1.length, h2.length]
              omega
          · cases z
        · cases z
      · cases z
    · cases z
  · rename_i xs ys _
    cases e
    obtain ⟨q1, vs1, rfl, g1, j1⟩ := sq_of R2.ex (stays (Same.refl F2) R2.toFin s1 R2.toFin) (show itemsOf (.tuple xs) = some xs from rfl)
    obtain ⟨q2, vs2, rfl, g2, j2⟩ := sq_of R2.ex (stays (Same.refl F2) R2.toFin s2 R2.toFin) (show itemsOf (.tuple ys) = some ys from rfl)
    rcases j1 with ⟨⟨es, z⟩, _⟩ | ⟨_, j1⟩
    · cases z
    · rcases j2 with ⟨⟨es, z⟩, _⟩ | ⟨_, j2⟩
      · cases z
      · rw [hK]
        refine ⟨q1, q2, vs1, vs2, rfl, .inr ⟨j1, j2, q F2 H2 _ R2 (x1.then x2 R2) fun i F' H' t3 s R' => ?_⟩⟩
        obtain ⟨p1, us1, z1, h1, hq1⟩ := sq_of R'.ex (stays s R' s1 R2.toFin) (show itemsOf (.tuple xs) = some xs from rfl)
        obtain ⟨p2, us2, z2, h2, hq2⟩ := sq_of R'.ex (stays s R' s2 R2.toFin) (show itemsOf (.tuple ys) = some ys from rfl)
        cases z1
        cases z2
        rcases hq1 with ⟨⟨es, z⟩, _⟩ | ⟨_, hq1⟩
        · cases z
        · rcases hq2 with ⟨⟨es, z⟩, _⟩ | ⟨_, hq2⟩
          · cases z
          · refine ⟨fun d hd => ?_, fun hi => ⟨us1, us2, hq1, hq2, ?_⟩⟩
            · obtain ⟨a, b, ha, hb, rfl⟩ := zipL_at hd
              obtain ⟨u, hu, ku⟩ := h1.get ha
              obtain ⟨w, hw, kw⟩ := h2.get hb
              refine ⟨⟨us1, us2, u, w, hq1, hq2, hu, hw⟩, fun x' H'' yl => ?_⟩
              obtain ⟨T, u', w', rfl, hT, rfl, y1, y2⟩ := yl
              have e1 := y1 _ hq1
              have e2 := y2 _ hq2
              rw [hu] at e1
              rw [hw] at e2
              cases e1
              cases e2
              exact fin R' ku kw T hT
            · rw [zipL_len] at hi
              rw [h1.length, h2.length]
              omega
  · cases e
/-- xs[::-1], a list -/
def mRevL {T : Type} (f : ME T) : Env → T → Option (PyData × T) := fun ρ t => do
  let (r1, t1) ← f ρ t
  let x ← rd ρ r1
  match x with
  | .list xs => some (.list xs.reverse, t1)
  | _ => none
/-- x, y, z = e1, e2, e3 -/
def mPar3 {T : Type} (i j l : Nat) (f : Env → T → Option (List Val × T)) : MS T := fun ρ t => match f ρ t with
  | some ([w1, w2, w3], t') => some (.nx (((ρ.set i (some w1)).set j (some w2)).set l (some w3)), t')
  | _ => none
variable {ga : Env → Γ.T → Option (List Val × Γ.T)} {c : Expr}
end
end Mi
/-! What must hold: zip, reversed lists, three names. -/
namespace Mi
open PySem L2
section
variable {T : Type} {ρ : Env} {t : T} {f fa fb : ME T} {d : PyData} {i j l : Nat} {QL : List PyData → T → Prop} {Q : PyData → T → Prop} {N : Env → T → Prop} {R : PyData → T → Prop} {B C : Env → T → Prop}
/-- the value, still as it is -/
def Ew {T : Type} (f : ME T) (ρ : Env) (t : T) (Q : PyData → T → Prop) : Prop := ∃ r t' d, f ρ t = some (r, t') ∧ still ρ r = some d ∧ Q d t'
theorem w_f (h : Ef f ρ t Q) : Ew f ρ t Q := by
  obtain ⟨d, t', e, q⟩ := h; exact ⟨_, _, d, e, rfl, q⟩
theorem w_b (h : ρ[i]? = some (some (.bor d))) (q : Q d t) : Ew (mV i) ρ t Q := by
  cases hf : flat d with
  | true => exact ⟨.fro d, t, d, by unfold mV; rw [h]; dsimp only; rw [hf]; rfl, rfl, q⟩
  | false => exact ⟨.loan i, t, d, by unfold mV; rw [h]; dsimp only; rw [hf]; rfl, by unfold still; dsimp only; rw [h], q⟩
theorem i_zip (h : Ew fa ρ t fun x t1 => Ew fb ρ t1 fun y t2 => ∃ xs ys, ((x = .list xs ∧ y = .list ys) ∨ (x = .tuple xs ∧ y = .tuple ys)) ∧ QL (zipL xs ys) t2) : Eg (mZip fa fb) ρ t QL := by
  obtain ⟨r1, t1, x, e1, ex, r2, t2, y, e2, ey, xs, ys, hc, q⟩ := h
  refine ⟨_, t2, ?_, q⟩
  unfold mZip
  rw [e1]
  show (fb ρ t1 >>= _) = _
  rw [e2]
  show (still ρ r1 >>= _) = _
  rw [ex]
  show (still ρ r2 >>= _) = _
  rw [ey]
  rcases hc with ⟨rfl, rfl⟩ | ⟨rfl, rfl⟩ <;> rfl
theorem zz_L {xs ys : List PyData} {P : List PyData → List PyData → Prop} (q : P xs ys) : ∃ as bs, ((PyData.list xs = .list as ∧ PyData.list ys = .list bs) ∨ (PyData.list xs = .tuple as ∧ PyData.list ys = .tuple bs)) ∧ P as bs := ⟨xs, ys, .inl ⟨rfl, rfl⟩, q⟩
theorem zz_T {xs ys : List PyData} {P : List PyData → List PyData → Prop} (q : P xs ys) : ∃ as bs, ((PyData.tuple xs = .list as ∧ PyData.tuple ys = .list bs) ∨ (PyData.tuple xs = .tuple as ∧ PyData.tuple ys = .tuple bs)) ∧ P as bs := ⟨xs, ys, .inr ⟨rfl, rfl⟩, q⟩
theorem l_revL (h : Ed f ρ t fun x t1 => ∃ xs, x = .list xs ∧ Q (.list xs.reverse) t1) : Eg (mRevL f) ρ t Q := by
  obtain ⟨r1, t1, x, e1, ex, xs, rfl, q⟩ := h
  refine ⟨_, t1, ?_, q⟩
  unfold mRevL
  rw [e1]
  show (rd ρ r1 >>= _) = _
  rw [ex]
  rfl
theorem ex_lst {xs : List PyData} {P : List PyData → Prop} (q : P xs) : ∃ ys, PyData.list xs = .list ys ∧ P ys := ⟨xs, rfl, q⟩
theorem s_par3 {gs : Env → T → Option (List Val × T)} (h : Eg gs ρ t fun vs t1 => ∃ u v w, vs = [u, v, w] ∧ N (((ρ.set i (some u)).set j (some v)).set l (some w)) t1) : Es (mPar3 i j l gs) ρ t N R B C := by
  obtain ⟨_, t1, e, u, v, w, rfl, q⟩ := h
  refine ⟨.nx _, t1, ?_, q⟩
  unfold mPar3
  rw [e]
theorem ex_three {a b c : Val} {P : Val → Val → Val → Prop} (q : P a b c) : ∃ u v w, [a, b, c] = [u, v, w] ∧ P u v w := ⟨a, b, c, rfl, q⟩
end
end Mi
/-! repr of data where lists and dicts lie beside one another. -/
namespace Mi
open PySem L2
section
variable {X : Cx} {pins : List (Addr × Obj)} {σ : L2.St} {H F : Hp} {s : Shared}
mutual
theorem Dq.rpr (I : L2.Inv X pins σ H s) (sm : Same F H) : ∀ (d : PyData) (v : V) (u : Value), Dq X.K F v d → RelV v u → d.showable = true → d.shown.length ≤ sizeLine → ∃ bs, ReadAtMost s.heap d.depth bs ∧ ReprK X.prog X.w bs s.heap d.depth u d.shown
  | .none, _, _, h, r, hs, hz => by
    cases h
    cases r
    exact ReprK.of_reads Reads.none hs (fun _ => by simp) hz
  | .bool b, _, _, h, r, hs, hz => by
    cases h
    cases r
    exact ReprK.of_reads (Reads.bool b) hs (fun _ => by simp) hz
  | .int i, _, _, h, r, hs, hz => by
    cases h
    obtain ⟨t, rfl⟩ := r
    exact ReprK.of_reads (Reads.int i t) hs (fun _ => by simp) hz
  | .str x, _, _, h, r, hs, hz => by
    cases h
    obtain ⟨t, rfl⟩ := r
    exact ReprK.of_reads (Reads.str x t) hs (fun _ => by simp) hz
  | .list ds, _, _, h, r, hs, hz => by
    cases h with
    | lst hl ha =>
      cases r
      obtain ⟨its, rv, ⟨o, n, ho, hc, _, hd⟩, _⟩ := I.list (.of (sm _ _ hl))
      obtain ⟨as, hr, _⟩ := DqA.rds I sm ds _ its ha rv
      have hz' : (listText (PyData.shownAll ds)).length ≤ sizeLine := by simpa only [PyData.shown] using hz
      obtain ⟨bs, hb, hk⟩ := DqA.rpr I sm ds _ its ha rv (by simpa [PyData.showable] using hs) (fun t ht => Nat.le_trans (listText_mem_le ht) hz')
      have rr := Reads.list ho hc hd (by simpa using hr)
      have hna := not_mem_of_deeper rr (n := PyData.depthAll ds) (by simp only [PyData.depth]; omega) hb
      refine ⟨_ :: bs, ReadAtMost.cons rr (by simp only [PyData.depth]; omega) hb, ?_⟩
      simp only [PyData.depth, PyData.shown]
      cases its with
      | nil =>
        have : ds = [] := by
          cases ds with
          | nil => rfl
          | cons d ds => cases hr
        subst this
        simp only [PyData.shownAll, listText_nil]
        exact ReprK.listEmpty ho hc hd
      | cons x l => exact ReprK.list ho hc hd hna (by simpa using hk.length_eq) (fun i y e => hk.item i y (by simpa using e))
  | .tuple ds, _, _, h, r, hs, hz => by
    cases h with
    | tup hl ha =>
      cases r
      obtain ⟨its, rv, ⟨o, ho, hc, n, hd⟩, _⟩ := I.tuple (same_t sm hl)
      obtain ⟨as, hr, _⟩ := DqA.rds I sm ds _ its ha rv
      have hz' : (tupleText (PyData.shownAll ds)).length ≤ sizeLine := by simpa only [PyData.shown] using hz
      obtain ⟨bs, hb, hk⟩ := DqA.rpr I sm ds _ its ha rv (by simpa [PyData.showable] using hs) (fun t ht => Nat.le_trans (tupleText_mem_le ht) hz')
      have rr := Reads.tuple ho hc hd (by simpa using hr)
      have hna := not_mem_of_deeper rr (n := PyData.depthAll ds) (by simp only [PyData.depth]; omega) hb
      refine ⟨_ :: bs, ReadAtMost.cons rr (by simp only [PyData.depth]; omega) hb, ?_⟩
      simp only [PyData.depth, PyData.shown]
      exact ReprK.tuple ho hc hd hna (by simpa using hk)
  | .dict es, _, _, h, r, hs, hz => by
    cases h with
    | dct hl ha =>
      cases r
      obtain ⟨_, hne, vs, kv, o, ents, ep, ho, hex, hd, hk, hp, _⟩ := I.hok _ _ (sm _ _ hl)
      obtain ⟨as, bs, h1, h2, h3, _⟩ := DqK.rds I sm es _ vs ents.toList ha kv hp
      have hz' : (dictText (PyData.shownKv es)).length ≤ sizeLine := by simpa only [PyData.shown] using hz
      obtain ⟨hs1, hs2⟩ := PyData.showableKv_split es (by simpa [PyData.showable] using hs)
      obtain ⟨b1, hb1, k1⟩ := ReprAllK.of_readsAll (prog := X.prog) (w := X.w) h1 hs1 (fun _ => h3) (fun t ht => let ⟨p, hp, hl⟩ := PyData.shownKv_key_le es t ht; Nat.le_trans hl (Nat.le_trans (dictText_mem_le hp) hz'))
      obtain ⟨b2, hb2, k2⟩ := DqK.rpr I sm es _ vs ents.toList ha kv hp hs2 (fun t ht => let ⟨p, hp, hl⟩ := PyData.shownKv_val_le es t ht; Nat.le_trans hl (Nat.le_trans (dictText_mem_le hp) hz'))
      have rr := Reads.dict ho hex.1 hd h1 h2
      have hb : ReadAtMost s.heap (PyData.depthKv es) (b1 ++ b2) := (hb1.mono (PyData.depthAll_keys_le es)).append (hb2.mono (PyData.depthAll_vals_le es))
      have hna := not_mem_of_deeper rr (n := PyData.depthKv es) (by simp only [PyData.depth]; omega) hb
      refine ⟨_ :: (b1 ++ b2), ReadAtMost.cons rr (by simp only [PyData.depth]; omega) hb, ?_⟩
      simp only [PyData.depth, PyData.shown, PyData.shownKv_eq]
      exact ReprK.dict ho hex.1 hd hne hna (ReprEntriesK.of_two ents.toList _ _ (k1.more_le (fun b hb => List.mem_append_left _ hb) (PyData.depthAll_keys_le es)) (k2.more_le (fun b hb => List.mem_append_right _ hb) (PyData.depthAll_vals_le es)))
theorem DqA.rpr (I : L2.Inv X pins σ H s) (sm : Same F H) : ∀ (ds : List PyData) (vs : List V) (us : List Value), DqA X.K F vs ds → Vals vs us → PyData.showableAll ds = true → (∀ t ∈ PyData.shownAll ds, t.length ≤ sizeLine) → ∃ bs, ReadAtMost s.heap (PyData.depthAll ds) bs ∧ ReprAllK X.prog X.w bs s.heap (PyData.depthAll ds) us (PyData.shownAll ds)
  | [], _, _, h, r, _, _ => by
    cases h
    cases r
    exact ⟨[], (fun _ h => nomatch h), by simp only [PyData.shownAll]; exact .nil⟩
  | d :: ds, _, _, h, r, hs, hz => by
    cases h with
    | cons h1 h2 =>
      cases r with
      | cons r1 r2 =>
        have hs' : d.showable = true ∧ PyData.showableAll ds = true := by simpa [PyData.showableAll] using hs
        obtain ⟨b1, hb1, k1⟩ := Dq.rpr I sm d _ _ h1 r1 hs'.1 (hz _ (by simp only [PyData.shownAll]; exact List.mem_cons_self ..))
        obtain ⟨b2, hb2, k2⟩ := DqA.rpr I sm ds _ _ h2 r2 hs'.2 (fun t ht => hz t (by simp only [PyData.shownAll]; exact List.mem_cons_of_mem _ ht))
        refine ⟨b1 ++ b2, ?_, ?_⟩
        · simp only [PyData.depthAll]
          exact (hb1.mono (Nat.le_max_left _ _)).append (hb2.mono (Nat.le_max_right _ _))
        · simp only [PyData.depthAll, PyData.shownAll]
          exact .cons ((k1.more fun b hb => List.mem_append_left _ hb).level_le (Nat.le_max_left _ _)) (k2.more_le (fun b hb => List.mem_append_right _ hb) (Nat.le_max_right _ _))
theorem DqK.rpr (I : L2.Inv X pins σ H s) (sm : Same F H) : ∀ (es : List (PyData × PyData)) (kvs : List (Key × V)) (vs : List (Key × Value)) (ents : List DictEntry), DqK X.K F kvs es → KV kvs vs → Pairs (mixKind X.prog X.w) ents vs → PyData.showableAll (es.map (·.2)) = true → (∀ t ∈ PyData.shownAll (es.map (·.2)), t.length ≤ sizeLine) →
    ∃ bs, ReadAtMost s.heap (PyData.depthAll (es.map (·.2))) bs ∧ ReprAllK X.prog X.w bs s.heap (PyData.depthAll (es.map (·.2))) (ents.map (·.val)) (PyData.shownAll (es.map (·.2)))
  | [], _, _, _, h, r, p, _, _ => by
    cases h
    cases r
    cases p
    exact ⟨[], (fun _ h => nomatch h), by simp only [List.map_nil, PyData.shownAll]; exact .nil⟩
  | e :: es, _, _, _, h, r, p, hs, hz => by
    cases h with
    | cons h1 h2 =>
      cases r with
      | cons r1 r2 =>
        cases p with
        | cons p1 p2 p3 =>
          rw [List.map_cons] at hs hz ⊢
          have hs' := hs
          simp only [PyData.showableAll, Bool.and_eq_true] at hs'
          obtain ⟨b1, hb1, k1⟩ := Dq.rpr I sm _ _ _ h1 r1.2 hs'.1 (hz _ (by simp only [PyData.shownAll]; exact List.mem_cons_self ..))
          obtain ⟨b2, hb2, k2⟩ := DqK.rpr I sm es _ _ _ h2 r2 p3 hs'.2 (fun t ht => hz t (by simp only [PyData.shownAll]; exact List.mem_cons_of_mem _ ht))
          refine ⟨b1 ++ b2, ?_, ?_⟩
          · simp only [PyData.depthAll]
            exact (hb1.mono (Nat.le_max_left _ _)).append (hb2.mono (Nat.le_max_right _ _))
          · simp only [PyData.depthAll, PyData.shownAll, List.map_cons]
            exact .cons (p2 ▸ (k1.more fun b hb => List.mem_append_left _ hb).level_le (Nat.le_max_left _ _)) (k2.more_le (fun b hb => List.mem_append_right _ hb) (Nat.le_max_right _ _))
end
/-- how it shows itself -/
theorem Dq.shows (I : L2.Inv X pins σ H s) (sm : Same F H) {d : PyData} {v : V} {a : Addr} (h : Dq X.K F v d) (r : RelV v (.ref a)) (hs : d.showable = true) (hz : d.shown.length ≤ sizeLine) : ∃ T idr, ShowsBy X.prog X.w s.heap a d T idr := by
  cases h with
  | non => cases r
  | bl => cases r
  | int => obtain ⟨t, e⟩ := r; cases e
  | str => obtain ⟨t, e⟩ := r; cases e
  | lst hl ha =>
    rename_i _ ds
    cases r
    obtain ⟨its, rv, ⟨o, n, ho, hc, _, hd⟩, _⟩ := I.list (.of (sm _ _ hl))
    obtain ⟨as, hr, _⟩ := DqA.rds I sm ds _ its ha rv
    have hz' : (listText (PyData.shownAll ds)).length ≤ sizeLine := by simpa only [PyData.shown] using hz
    obtain ⟨bs, hb, hk⟩ := DqA.rpr I sm ds _ its ha rv (by simpa [PyData.showable] using hs) (fun t ht => Nat.le_trans (listText_mem_le ht) hz')
    have rr := Reads.list ho hc hd (by simpa using hr)
    have hna := not_mem_of_deeper rr (n := PyData.depthAll ds) (by simp only [PyData.depth]; omega) hb
    refine ⟨"list", "list.__repr__", PySem.F.slot_list_repr.toG, PySem.F.slot_list_str, PySem.F.slot_list_format, fun s hk0 => ⟨o, hk0 _ _ ho, hc⟩, fun A E s Q hg hu hk0 hQ => ?_⟩
    simp only [PyData.depth] at hu
    simp only [PyData.shown] at hQ
    cases its with
    | nil =>
      have : ds = [] := by
        cases ds with
        | nil => rfl
        | cons d ds => cases hr
      subst this
      simp only [PyData.shownAll, listText_nil] at hQ
      exact call_list_repr_empty ⟨o, hk0 _ _ ho, hc⟩ (hk0 _ _ ho) hd (hQ s.heap _ _ fun _ _ e => e)
    | cons x l => exact call_list_reprK ho hc hd hna (by simpa using hk.length_eq) (fun i y e => hk.item i y (by simpa using e)) hg (fun b _ => Clear.nil b) hu hk0 hQ hz'
  | tup hl ha =>
    rename_i _ ds
    cases r
    obtain ⟨its, rv, ⟨o, ho, hc, n, hd⟩, _⟩ := I.tuple (same_t sm hl)
    obtain ⟨as, hr, _⟩ := DqA.rds I sm ds _ its ha rv
    have hz' : (tupleText (PyData.shownAll ds)).length ≤ sizeLine := by simpa only [PyData.shown] using hz
    obtain ⟨bs, hb, hk⟩ := DqA.rpr I sm ds _ its ha rv (by simpa [PyData.showable] using hs) (fun t ht => Nat.le_trans (tupleText_mem_le ht) hz')
    have rr := Reads.tuple ho hc hd (by simpa using hr)
    have hna := not_mem_of_deeper rr (n := PyData.depthAll ds) (by simp only [PyData.depth]; omega) hb
    refine ⟨"tuple", "tuple.__repr__", PySem.F.slot_tuple_repr, PySem.F.slot_tuple_str, PySem.F.slot_tuple_format, fun s hk0 => ⟨o, hk0 _ _ ho, hc⟩, fun A E s Q hg hu hk0 hQ => ?_⟩
    simp only [PyData.depth] at hu
    simp only [PyData.shown] at hQ
    exact call_tuple_reprK ho hc hd hna (by simpa using hk) hg (fun b _ => Clear.nil b) hu hk0 hQ hz'
  | dct hl ha =>
    rename_i _ es
    cases r
    obtain ⟨_, hne, vs, kv, o, ents, ep, ho, hex, hd, hk, hp, _⟩ := I.hok _ _ (sm _ _ hl)
    obtain ⟨as, bs, h1, h2, h3, _⟩ := DqK.rds I sm es _ vs ents.toList ha kv hp
    have hz' : (dictText (PyData.shownKv es)).length ≤ sizeLine := by simpa only [PyData.shown] using hz
    obtain ⟨hs1, hs2⟩ := PyData.showableKv_split es (by simpa [PyData.showable] using hs)
    obtain ⟨b1, hb1, k1⟩ := ReprAllK.of_readsAll (prog := X.prog) (w := X.w) h1 hs1 (fun _ => h3) (fun t ht => let ⟨p, hp, hl⟩ := PyData.shownKv_key_le es t ht; Nat.le_trans hl (Nat.le_trans (dictText_mem_le hp) hz'))
    obtain ⟨b2, hb2, k2⟩ := DqK.rpr I sm es _ vs ents.toList ha kv hp hs2 (fun t ht => let ⟨p, hp, hl⟩ := PyData.shownKv_val_le es t ht; Nat.le_trans hl (Nat.le_trans (dictText_mem_le hp) hz'))
    have rr := Reads.dict ho hex.1 hd h1 h2
    have hb : ReadAtMost s.heap (PyData.depthKv es) (b1 ++ b2) := (hb1.mono (PyData.depthAll_keys_le es)).append (hb2.mono (PyData.depthAll_vals_le es))
    have hna := not_mem_of_deeper rr (n := PyData.depthKv es) (by simp only [PyData.depth]; omega) hb
    refine ⟨"dict", "dict.__repr__", PySem.F.slot_dict_repr, PySem.F.slot_dict_str, PySem.F.slot_dict_format, fun s hk0 => ⟨o, hk0 _ _ ho, hex.1⟩, fun A E s Q hg hu hk0 hQ => ?_⟩
    simp only [PyData.depth] at hu
    simp only [PyData.shown, PyData.shownKv_eq] at hQ
    exact call_dict_reprK ho hex.1 hd hne hna (ReprEntriesK.of_two ents.toList _ _
      (k1.more_le (fun b hb => List.mem_append_left _ hb) (PyData.depthAll_keys_le es)) (k2.more_le (fun b hb => List.mem_append_right _ hb) (PyData.depthAll_vals_le es))) hg (fun b _ => Clear.nil b) hu hk0 hQ (by rw [← PyData.shownKv_eq]; exact hz')
end
def reprE : List PyData → Option PyData
  | [d] => if d.showable = true ∧ d.shown.length ≤ sizeLine ∧ d.depth ≤ 60 then some (.str d.shown) else none
  | _ => none
theorem call_reprEE {X : Cx} (hg : X.A.guards = some []) (hu : X.A.units + 64 < cLine) : CallR X (.builtin "repr") (rC X.K reprE) := by
  rintro pins s σ H vs us Q I r ⟨F, xs, z, sm, dx, e, q⟩
  unfold reprE at e
  split at e
  · rename_i d
    split at e
    · rename_i hz
      cases e
      obtain ⟨v, rfl, h⟩ := f1 dx
      obtain ⟨u, rfl, ru⟩ := r.one
      have fin : Q (.str d.shown) H := q _ F H (Ext.refl sm) (.str _)
      cases d with
      | none => cases (show v = _ from h); cases ru; exact PySem.P.repr_of_none ⟨.str _, H, I.tok _, ⟨_, rfl⟩, fin⟩
      | bool b => cases (show v = _ from h); cases ru; exact PySem.P.repr_of_bool ⟨.str _, H, I.tok _, ⟨_, rfl⟩, fin⟩
      | int i =>
        cases (show v = _ from h)
        obtain ⟨t, rfl⟩ := ru
        exact PySem.P.repr_of_int (by simpa [PyData.showable] using hz.1) ⟨.str _, H, I.tok _, ⟨_, rfl⟩, fin⟩
      | str x =>
        cases (show v = _ from h)
        obtain ⟨t, rfl⟩ := ru
        exact PySem.P.repr_of_str ⟨.str _, H, I.tok _, ⟨_, rfl⟩, fin⟩ (by simpa [PyData.shown] using hz.2.1)
      | list ds =>
        obtain ⟨a, ws, rfl, h1, k⟩ := h
        cases ru
        obtain ⟨T, idr, S⟩ := Dq.shows (F := H) I (Same.refl H) (.lst h1 (k.mono sm)) rfl hz.1 hz.2.1
        exact call_repr_slot (by omega) (S.typeIs s fun _ _ e => e) S.slotRepr (S.call X.A.in1 _ s _ hg (by show X.A.units + 1 + _ < cLine; omega) (fun _ _ e => e) fun h' u tk hk => ⟨_, _, rfl, .str _, H, I.kept hk, ⟨_, rfl⟩, fin⟩)
      | tuple ds =>
        obtain ⟨a, ws, rfl, h1, k⟩ := h
        cases ru
        obtain ⟨T, idr, S⟩ := Dq.shows I sm (.tup h1 k) rfl hz.1 hz.2.1
        exact call_repr_slot (by omega) (S.typeIs s fun _ _ e => e) S.slotRepr (S.call X.A.in1 _ s _ hg (by show X.A.units + 1 + _ < cLine; omega) (fun _ _ e => e) fun h' u tk hk => ⟨_, _, rfl, .str _, H, I.kept hk, ⟨_, rfl⟩, fin⟩)
      | dict es =>
        obtain ⟨a, ws, rfl, h1, k⟩ := h
        cases ru
        obtain ⟨T, idr, S⟩ := Dq.shows (F := H) I (Same.refl H) (.dct h1 (k.mono sm)) rfl hz.1 hz.2.1
        exact call_repr_slot (by omega) (S.typeIs s fun _ _ e => e) S.slotRepr (S.call X.A.in1 _ s _ hg (by show X.A.units + 1 + _ < cLine; omega) (fun _ _ e => e) fun h' u tk hk => ⟨_, _, rfl, .str _, H, I.kept hk, ⟨_, rfl⟩, fin⟩)
    · cases e
  · cases e
end Mi
/-! get of a written table of texts and ints; all(..) of bools; an item of one's own list put anew. -/
namespace Mi
open PySem L2
def tabV (tab : List (Str × Int)) (x : Str) : PyData := match tab.lookup x with
  | some i => .int i
  | none => .none
def mTabGet {T : Type} (tab : List (Str × Int)) (f : ME T) : ME T := fun ρ t => match f ρ t with
  | some (.fro (.str x), t') => some (.fro (tabV tab x), t')
  | _ => none
section
variable {X : Cx} {Γ : Gm} {e : Expr} {p apos cpos : Pos} {ty : TE} {nm : Str} {tab : List (Str × Int)} {fe : ME Γ.T}
end
/-! ### all(..) -/
def boolsOf : List PyData → Option (List Bool)
  | [] => some []
  | .bool b :: ds => (boolsOf ds).map (b :: ·)
  | _ :: _ => none
def allD : List PyData → Option PyData
  | [.list xs] => (boolsOf xs).map fun bs => .bool (bs.all id)
  | _ => none
/-! ### xs[k] = d, xs one's own -/
theorem DqA.put {K : PySem.W.Frag} {F : Hp} {v : V} {d : PyData} (h : Dq K F v d) : ∀ {vs : List V} {ds : List PyData} (n : Nat), DqA K F vs ds → DqA K F (vs.set n v) (ds.set n d)
  | _, _, _, .nil => .nil
  | _, _, 0, .cons _ h2 => .cons h h2
  | _, _, n + 1, .cons h1 h2 => .cons h1 (DqA.put h n h2)
def mPutAt {T : Type} (i : Nat) (fk fa : ME T) : MS T := fun ρ t => match fa ρ t with
  | some (.fro d, t1) => match fk ρ t1 with
    | some (.fro (.int k), t2) => match ρ[i]? with
      | some (some (.own (.list ds))) => match ixN ds.length k with
        | some n => some (.nx (ρ.set i (some (.own (.list (ds.set n d))))), t2)
        | none => none
      | _ => none
    | _ => none
  | _ => none
section
variable {X : Cx} {Γ : Gm} {i : Nat} {o k a : Expr} {q2 pos : Pos} {fk fa : ME Γ.T}
theorem ps_putAtD (ho : PE X o (tVar i)) (hi : PE X k (den Γ fk)) (ha : PE X a (den Γ fa))
    (hs : swapsWithSole [.Subscript o k q2] a pos.line X.env = pure false := by rfl) (hw : swappedStores [.Subscript o k q2] a X.env = pure none := by rfl)
    (h1 : (assignEach [.Subscript o k q2] X.env).map (·.2) = [assign (.Subscript o k q2) X.env] := by rfl)
    (hx : ∀ v, assign (.Subscript o k q2) X.env v = (do
      let ov ← holding [v] (eval o X.env)
      let iv ← holding [v, ov] (eval k X.env)
      standAt q2
      holding [v, ov, iv] (setItem ov iv v)
      release [v, ov, iv] []) := by intro _; rfl) : PS X (.Assign [.Subscript o k q2] a pos) (denS Γ (mPutAt i fk fa)) :=
  ps_w (ps_asg ha (pg_sub ho hi set_list hx) hs hw h1) fun D σ H => by
    rintro ⟨F, ρ, t, r, t', R, e, q⟩
    unfold mPutAt at e
    split at e
    · rename_i d t1 e1
      split at e
      · rename_i z t2 e2
        split at e
        · rename_i ds e3
          split at e
          · rename_i n e4
            cases e
            refine ⟨F, ρ, t, _, _, R, e1, fun v F1 H1 R1 x1 k1 => ?_⟩
            obtain ⟨p1, h1, _⟩ := R1.slots i _ e3
            refine ⟨_, h1, F1, ρ, _, _, _, R1, e2, fun y F2 H2 R2 x2 k2 => ?_⟩
            cases (show Dq Γ.K F2 y (.int z) from k2)
            obtain ⟨p2, g1, ⟨g2, ws2, g3, g4⟩, _, _⟩ := R2.slots i _ e3
            rw [h1] at g1
            cases g1
            refine ⟨p1, ws2, z, n, rfl, rfl, g3, by rw [g4.length]; exact e4, ?_⟩
            exact q σ F2 _ (R2.turn e3 h1 ⟨g2, _, upd_same, DqA.put ((show Dq Γ.K F1 v d from k1).mono x2.f) n g4⟩) (x1.f.trans x2.f)
          · cases e
        · cases e
      · cases e
    · cases e
end
end Mi
/-! t[::-1], a tuple. -/
namespace Mi
open PySem PySem.Spec PyProof.Rows L2
section
variable {prog : Program} {w : World} {A : Around} {E : Value → Shared → Prop} {s : Shared}
end
section
variable {X : Cx} {Γ : Gm} {a : Expr} {fa : ME Γ.T} {pos : Pos}
end
end Mi
/-! dict(enumerate(t)), t a tuple. -/
namespace PySem
section
variable {prog : Program} {w : World} {A : Around} {E : Value → Shared → Prop} {s : Shared}
end
end PySem

namespace Mi
open PySem PySem.Spec PyProof.Rows L2
section
variable {X : Cx} {Γ : Gm} {fa : ME Γ.T}
end
end Mi
/-! text * int. -/
namespace Mi
open PySem PySem.Spec PyProof.Rows L2
end Mi
/-! list(range(..)), reversed(range(n)), sorted(..) of ints. -/
namespace Mi
open PySem PySem.Spec PyProof.Rows L2
def rgD (a b : Int) : List PyData := (List.range (b - a).toNat).map fun (i : Nat) => PyData.int (a + (i : Nat))
theorem rg_dq {K : PySem.W.Frag} {F : Hp} (a b : Int) : DqA K F (rgV a b) (rgD a b) := by
  unfold rgV rgD
  induction List.range (b - a).toNat with
  | nil => exact .nil
  | cons x xs ih => exact .cons (.int _) ih
section
variable {X : Cx} {Γ : Gm} {a b : Expr} {fa fb : ME Γ.T} {p p2 pos pos2 : Pos}
def mLRg1 {T : Type} (f : ME T) : Env → T → Option (PyData × T) := fun ρ t => match f ρ t with
  | some (.fro (.int n), t') => if 0 ≤ n ∧ n ≤ 16777216 then some (.list (rgD 0 n), t') else none
  | _ => none
def mLRg2 {T : Type} (f g : ME T) : Env → T → Option (PyData × T) := fun ρ t => match f ρ t with
  | some (.fro (.int m), t1) => match g ρ t1 with
    | some (.fro (.int n), t') => if 0 ≤ m ∧ n ≤ 16777216 ∧ m ≤ 16777216 ∧ 0 ≤ n then some (.list (rgD m n), t') else none
    | _ => none
  | _ => none
theorem pe_lRg2D (hc : X.calm = true) (hg : Gl X "list") (hm : X.mg "list" = none) (hg2 : Gl X "range") (hm2 : X.mg "range" = none) (h : PE X a (den Γ fa)) (h2 : PE X b (den Γ fb)) (hs : starEach [a, b] X.env = (false, eval a X.env) :: starEach [b] X.env := by rfl) (hs1 : starEach [b] X.env = (false, eval b X.env) :: starEach [] X.env := by rfl) (hpl : (backTo pos2 (starEach [b] X.env)).any (·.1) = false := by rfl)
    (hs2 : starEach [.Call (.Name "range" p2) [a, b] [] pos2] X.env = (false, eval (.Call (.Name "range" p2) [a, b] [] pos2) X.env) :: starEach [] X.env := by rfl) :
    PE X (.Call (.Name "list" p) [.Call (.Name "range" p2) [a, b] [] pos2] [] pos) (denL Γ (mLRg2 fa fb)) := pe_w (pe_listRg hc hg hm (prg_2 hg2 hm2 h h2 hs hs1 (hp := hpl)) hs2) fun σ H Q => by
  rintro ⟨F, ρ, t, r, t', R, e, q⟩
  unfold mLRg2 at e
  split at e
  · rename_i m t1 e1
    split at e
    · rename_i n t2 e2
      split at e
      · rename_i hz
        cases e
        refine ⟨F, ρ, t, _, _, R, e1, fun v F1 H1 R1 x1 k1 => ⟨F1, ρ, _, _, _, R1, e2, fun w F2 H2 R2 x2 k2 => ?_⟩⟩
        cases (show Dq Γ.K F1 v (.int m) from k1)
        cases (show Dq Γ.K F2 w (.int n) from k2)
        refine ⟨m, n, rfl, rfl, RgOk.of_le hz.1 hz.2.1 hz.2.2.1 hz.2.2.2, fun p hp => ?_⟩
        have x0 : Ext [] F2 H2 F2 (upd H2 p (.lst (rgV m n))) := Ext.new R2.ex hp
        have fr := R2.fresh (H' := upd H2 p (.lst (rgV m n))) (d := .list (rgD m n)) ⟨R2.ex.free hp, _, upd_same, rg_dq m n⟩ hp
        exact q p F2 _ (R2.ext0 x0) ((x1.then x2 R2).then x0.wide (R2.ext0 x0)) ⟨fr.own, old_none (x1.then x2 R2) R2 hp, fr.old, fr.nS, fr.nsl⟩
      · cases e
    · cases e
  · cases e
end
/-! ### reversed(range(n)) -/
section
variable {X : Cx} {Γ : Gm} {a tg : Expr} {fa : ME Γ.T} {p p2 pos pos2 : Pos}
end
end Mi
/-! xs + ys, a list of one's own. -/
namespace Mi
open PySem PySem.Spec PyProof.Rows L2
section
variable {X : Cx} {Γ : Gm} {a b : Expr} {fa fb : ME Γ.T} {pos : Pos}
end
end Mi
/-! d.get(k, x); dict([(k, x), ..]). -/
namespace Mi
open PySem PySem.Spec PyProof.Rows L2
section
variable {X : Cx} {Γ : Gm} {o e f : Expr} {apos cpos : Pos} {fd fk fx : ME Γ.T}
end
end Mi
/-! x in (1, 2), x of any kind; 3 - True. -/
namespace Mi
open PySem PySem.Spec PyProof.Rows L2 PySem.SeqAt PySem.Calls
section
variable {X : Cx}
end
end Mi
/-! xs[k] += d, xs one's own. -/
namespace Mi
open PySem L2
section
variable {X : Cx}
theorem get_listN : PGet X (fun o i H Q => ∃ p xs v, ∃ n : Nat, o = .ref p ∧ i = .int (n : Int) ∧ SqL X.K H p xs ∧ xs[n]? = some v ∧ Q v H) := by
  intro pins s σ H o i ov iv Q I ro ri h
  obtain ⟨p, xs, v, n, rfl, rfl, hp, hv, q⟩ := h
  cases ro
  obtain ⟨t, rfl⟩ := ri
  obtain ⟨its, r, pl, hz⟩ := I.list hp
  obtain ⟨w, ew, rw'⟩ := r.get hv
  have hl := r.length
  have hn := line63
  have hlt : n < xs.length := (List.getElem?_eq_some_iff.mp hv).1
  exact wpAny_getItem_list pl.isList (by omega) (by omega) (by rw [Int.toNat_natCast]; simpa using ew) ⟨v, H, I, rw', q⟩
end
def mAugAt {T : Type} (i : Nat) (g : PyData → PyData → Option PyData) (fk fa : ME T) : MS T := fun ρ t => match fk ρ t with
  | some (.fro (.int k), t1) => if 0 ≤ k then match ρ[i]? with
    | some (some (.own (.list ds))) => match ds[k.toNat]? with
      | some x => do
        let (r, t2) ← fa ρ t1
        let y ← rd ρ r
        let z ← g x y
        pure (.nx (ρ.set i (some (.own (.list (ds.set k.toNat z))))), t2)
      | none => none
    | _ => none
    else none
  | _ => none
section
variable {X : Cx} {Γ : Gm} {i : Nat} {o k a : Expr} {q2 pos : Pos} {fk fa : ME Γ.T} {op : Operator} {g : PyData → PyData → Option PyData}
theorem ps_augAtD (hK : X.K = Γ.K) (ho : PE X o (tVar i)) (hi : PE X k (den Γ fk)) (ha : PE X a (den Γ fa)) (hop : PIp X op (rD Γ.K g))
    (hs : ∀ ov iv new, augStore k ov iv new = (do holding [new, ov, iv] (setItem ov iv new); release [new, ov, iv] []; pure .next) := by intros; rfl) : PS X (.AugAssign (.Subscript o k q2) op a pos) (denS Γ (mAugAt i g fk fa)) :=
  ps_w (ps_augS ho hi get_listN ha hop set_list hs) fun D σ H => by
    rintro ⟨F, ρ, t, r, t', R, e, q⟩
    unfold mAugAt at e
    split at e
    · rename_i z t1 e1
      split at e
      · rename_i hz
        obtain ⟨n, rfl⟩ : ∃ n : Nat, z = n := ⟨z.toNat, by omega⟩
        rw [Int.toNat_natCast] at e
        split at e
        · rename_i ds e3
          split at e
          · rename_i x ex
            obtain ⟨⟨r1, t2⟩, e2, e⟩ := bind_some e
            obtain ⟨y, ey, e⟩ := bind_some e
            obtain ⟨z, ez, e⟩ := bind_some e
            cases e
            obtain ⟨p1, h1, _⟩ := R.slots i _ e3
            refine ⟨_, h1, F, ρ, t, _, _, R, e1, fun v F1 H1 R1 x1 k1 => ?_⟩
            cases (show Dq Γ.K F1 v (.int n) from k1)
            obtain ⟨p2, g1, ⟨g2, ws2, g3, g4⟩, _, _⟩ := R1.slots i _ e3
            rw [h1] at g1
            cases g1
            obtain ⟨u, hu, ku⟩ := g4.get ex
            refine ⟨p1, ws2, u, n, rfl, rfl, .of g3, hu, ?_⟩
            refine ⟨F1, ρ, t1, r1, _, R1, e2, fun w F2 H2 R2 x2 k2 => ?_⟩
            refine ⟨F2, x, y, z, R2.ex, (ku.mono x2.f).dv R2.ex, R2.read k2 ey, ez, fun u2 F3 H3 x3 k3 => ?_⟩
            have R3 := R2.ext0 x3
            obtain ⟨p3, g1, ⟨g5, ws3, g6, g7⟩, _, _⟩ := R3.slots i _ e3
            rw [h1] at g1
            cases g1
            have hlt := (List.getElem?_eq_some_iff.mp ex).1
            have hix : ixN ds.length (n : Int) = some n := by
              unfold ixN
              rw [if_pos (by omega), if_pos (by omega), Int.toNat_natCast]
            refine ⟨p1, ws3, _, n, rfl, rfl, g6, by rw [g7.length]; exact hix, ?_⟩
            exact q σ F3 _ (R3.turn e3 h1 (show Own Γ.K F3 (upd H3 p1 (.lst (ws3.set n u2))) p1 (.list (ds.set n z)) from ⟨g5, _, upd_same, DqA.put k3 n g7⟩)) ((x1.f.trans x2.f).trans x3.f)
          · cases e
        · cases e
      · cases e
    · cases e
end
section
variable {T : Type} {ρ : Env} {t : T} {i : Nat} {fk fa : ME T} {g : PyData → PyData → Option PyData} {N : Env → T → Prop} {R : PyData → T → Prop} {B C : Env → T → Prop}
theorem s_augAt (h : Ef fk ρ t fun d t1 => ∃ n : Nat, d = .int (n : Int) ∧ ∃ ds, ρ[i]? = some (some (.own (.list ds))) ∧ ∃ x, ds[n]? = some x ∧ Ed fa ρ t1 fun y t2 => ∃ z, g x y = some z ∧ N (ρ.set i (some (.own (.list (ds.set n z))))) t2) : Es (mAugAt i g fk fa) ρ t N R B C := by
  obtain ⟨_, t1, e1, n, rfl, ds, e3, x, ex, r, t2, y, e2, ey, z, ez, q⟩ := h
  refine ⟨.nx _, t2, ?_, q⟩
  unfold mAugAt
  rw [e1]
  dsimp only
  rw [if_pos (by omega), e3]
  dsimp only
  rw [Int.toNat_natCast, ex]
  dsimp only
  rw [e2]
  show (rd ρ r >>= _) = _
  rw [ey]
  show (g x y >>= _) = _
  rw [ez]
  rfl
end
section
variable {X : Cx} {Γ : Gm} {a b : Expr} {fa fb : ME Γ.T} {pos : Pos}
/-- xs * n, a list of one's own -/
def repLD : PyData → PyData → Option PyData
  | .list xs, .int k => if -(2 ^ 63) ≤ k ∧ k < 2 ^ 63 ∧ xs.length * k.toNat ≤ sizeLine then some (.list (List.replicate k.toNat xs).flatten) else none
  | _, _ => none
def mRepL {T : Type} (f g : ME T) : Env → T → Option (PyData × T) := fun ρ t => do
  let (r1, t1) ← f ρ t
  let (r2, t2) ← g ρ t1
  let x ← rd ρ r1
  let y ← rd ρ r2
  let z ← repLD x y
  pure (z, t2)
theorem pe_repLD (ha : PE X a (den Γ fa)) (hb : PE X b (den Γ fb)) : PE X (.BinOp a .Mult b pos) (denL Γ (mRepL fa fb)) := pe_w (pe_op op_rep ha hb) fun σ H Q => by
  rintro ⟨F, ρ, t, d, t', R, e, q⟩
  obtain ⟨⟨r1, t1⟩, e1, e⟩ := bind_some e
  obtain ⟨⟨r2, t2⟩, e2, e⟩ := bind_some e
  obtain ⟨x, ex, e⟩ := bind_some e
  obtain ⟨y, ey, e⟩ := bind_some e
  obtain ⟨z, ez, e⟩ := bind_some e
  cases e
  unfold repLD at ez
  split at ez
  · rename_i xs k _
    split at ez
    · rename_i hz
      cases ez
      refine ⟨F, ρ, t, r1, _, R, e1, fun v F1 H1 R1 x1 k1 => ⟨F1, ρ, _, r2, _, R1, e2, fun w F2 H2 R2 x2 k2 => ?_⟩⟩
      obtain ⟨l, vs, rfl, h1, kk1⟩ := R2.read (k1.mono x2.f) ex
      cases (show w = _ from R2.read k2 ey)
      refine ⟨l, k, vs, rfl, rfl, h1, hz.1, hz.2.1, by rw [kk1.length]; exact hz.2.2, fun p hp => ?_⟩
      have x3 : Ext [] F2 H2 F2 (upd H2 p (.lst (List.replicate k.toNat vs).flatten)) := Ext.new R2.ex hp
      have fr := R2.fresh (H' := upd H2 p (.lst (List.replicate k.toNat vs).flatten)) (d := .list _) ⟨R2.ex.free hp, _, upd_same, kk1.rep _⟩ hp
      exact q p F2 _ (R2.ext0 x3) ((x1.then x2 R2).then x3.wide (R2.ext0 x3)) ⟨fr.own, old_none (x1.then x2 R2) R2 hp, fr.old, fr.nS, fr.nsl⟩
    · cases ez
  · cases ez
end
theorem repLD_at {xs : List PyData} {i : Int} (h : -(2 ^ 63) ≤ i ∧ i < 2 ^ 63 ∧ xs.length * i.toNat ≤ sizeLine) : repLD (.list xs) (.int i) = some (.list (List.replicate i.toNat xs).flatten) := if_pos h
theorem repLD_ok {xs : List PyData} {k : Nat} (h : xs.length * k ≤ 1000000) (hk : k ≤ 1000000) : repLD (.list xs) (.int (k : Int)) = some (.list (List.replicate k xs).flatten) := by
  rw [repLD_at ⟨by omega, by omega, by rw [Int.toNat_natCast]; exact Nat.le_trans h (by decide)⟩, Int.toNat_natCast]
section
variable {T : Type} {ρ : Env} {t : T} {fa fb : ME T} {Q : PyData → T → Prop}
theorem l_repL (h : Ed fa ρ t fun x t1 => Ed fb ρ t1 fun y t2 => ∃ z, repLD x y = some z ∧ Q z t2) : Eg (mRepL fa fb) ρ t Q := by
  obtain ⟨r1, t1, x, e1, ex, r2, t2, y, e2, ey, z, ez, q⟩ := h
  refine ⟨_, t2, ?_, q⟩
  unfold mRepL
  rw [e1]
  show (fb ρ t1 >>= _) = _
  rw [e2]
  show (rd ρ r1 >>= _) = _
  rw [ex]
  show (rd ρ r2 >>= _) = _
  rw [ey]
  show (repLD _ _ >>= _) = _
  rw [ez]
  rfl
end
end Mi
/-! zip of a list and a tuple. -/
namespace Mi
open PySem PySem.Spec PyProof.Rows L2 PySem.Calls
open PySem.W (neN ltN)
/-- a list at a, n long, beside a tuple at b, m long -/
def ItzX (K : PySem.W.Frag) (a b : Addr) (n m : Nat) : It where
  go := fun i H => ∃ (xs ys : List V) (x y : V), (SqL K H a xs ∧ xs.length = n) ∧ (SqT K H b ys ∧ ys.length = m) ∧ xs[i]? = some x ∧ ys[i]? = some y
  yld := fun i H v H' => ∃ T x y, v = .ref T ∧ H T = none ∧ H' = upd H T (.tup [x, y]) ∧
    (∀ xs, SqL K H a xs → xs[i]? = some x) ∧ ∀ ys, SqT K H b ys → ys[i]? = some y
  stop := fun i H => ∃ xs ys : List V, (SqL K H a xs ∧ xs.length = n) ∧ (SqT K H b ys ∧ ys.length = m) ∧ (n ≤ i ∨ m ≤ i)
structure ZSt (I a b n m i : Nat) (h : Heap) : Prop where
  zip : IsZip h (I + 4) (I + 2) (I + 3) .none
  ti : IsPair h (I + 2) (.ref I) (.ref (I + 1))
  to : ∃ x y, IsPair h (I + 3) x y
  one : h.IsListIter I a i
  two : h.IsTupleIter (I + 1) b i
  le1 : i ≤ n
  le2 : i ≤ m
theorem zsep {I a b : Nat} (ha : a < I) (hb : b < I) : ZipSep2 (I + 4) (I + 2) (I + 3) I (I + 1) [I, a] [I + 1, b] := by
  have ne : ∀ {x y : Nat}, (x < y ∨ y < x) → ¬ ((x : Addr) = (y : Addr)) := fun {x y} h e => by
    have e : x = y := e
    omega
  have no : ∀ {c x y : Addr}, ¬ c = x → ¬ c = y → c ∉ [x, y] := fun h1 h2 m => by
    rcases List.mem_cons.mp m with e | m
    · exact h1 e
    · exact h2 (List.mem_singleton.mp m)
  exact {
    TIz := ne (by omega), TOz := ne (by omega), TITO := ne (by omega), TIi1 := ne (by omega), TIi2 := ne (by omega)
    mem1 := List.mem_cons_self .., mem2 := List.mem_cons_self ..
    zf1 := no (ne (by omega)) (ne (by omega)), Tf1 := no (ne (by omega)) (ne (by omega))
    zf2 := no (ne (by omega)) (ne (by omega)), Tf2 := no (ne (by omega)) (ne (by omega))
    sep1_2 := no (ne (by omega)) (ne (by omega)), sep2_1 := no (ne (by omega)) (ne (by omega)) }
theorem fp5 {I c : Nat} (h : c ∈ [I + 4, I + 2, I + 3, I, I + 1]) : c = I + 4 ∨ c = I + 2 ∨ c = I + 3 ∨ c = I ∨ c = I + 1 := by simpa using h
theorem turn_zipX {P : Program} {w : World} {K : PySem.W.Frag} {elts : List Expr} {kk : Nat} {tpos : Pos} {I a b n m : Nat} (ha : a < I) (hb : b < I) :
    Turn P w K (.Tuple elts kk tpos) (ItzX K a b n m) [I + 4, I + 2, I + 3, I, I + 1] (I + 4) (ZSt I a b n m) where
  mem := List.mem_cons_self ..
  obj := fun i h st c hc => by
    obtain ⟨o1, e1, _, d1⟩ := st.one
    obtain ⟨o2, e2, _, d2⟩ := st.two
    obtain ⟨x, y, e3⟩ := st.to
    rcases fp5 hc with rfl | rfl | rfl | rfl | rfl
    · exact ⟨_, st.zip, fun v z => nomatch z⟩
    · exact ⟨_, st.ti, fun v z => nomatch z⟩
    · exact ⟨_, e3, fun v z => nomatch z⟩
    · exact ⟨o1, e1, fun v z => by rw [d1] at z; cases z⟩
    · exact ⟨o2, e2, fun v z => by rw [d2] at z; cases z⟩
  keep := fun i h h' st k => by
    obtain ⟨x, y, e3⟩ := st.to
    exact ⟨k _ (by simp) _ st.zip, k _ (by simp) _ st.ti, ⟨x, y, k _ (by simp) _ e3⟩, st.one.at fun o z => k _ (by simp) o z, st.two.at fun o z => k _ (by simp) o z, st.le1, st.le2⟩
  item := by
    intro X hP hw hK hc i pins s σ H E Iv hf st hg
    subst hP hw hK
    obtain ⟨x0, y0, hTO⟩ := st.to
    obtain ⟨xs, ys, x, y, ⟨hqx, hxl⟩, ⟨hqy, hyl⟩, hx, hy⟩ := hg
    obtain ⟨its, rv, p, _⟩ := Iv.list hqx
    obtain ⟨its2, rv2, p2, _⟩ := Iv.tuple hqy
    obtain ⟨u, hu, ru⟩ := rv.get hx
    obtain ⟨u2, hu2, ru2⟩ := rv2.get hy
    have hh : X.A.in1.handled = none := Iv.ok.hd hc
    have D1 := Draws.list (prog := X.prog) (w := X.w) hh I a (Nat.ne_of_lt ha) its.toArray
    have D2 := Draws.tuple (prog := X.prog) (w := X.w) hh (I + 1) b (Nat.ne_of_lt (Nat.lt_succ_of_lt hb)) its2.toArray
    have l1 : i < its.toArray.size := by
      have := (List.getElem?_eq_some_iff.mp hu).1
      simpa using this
    have l2 : i < its2.toArray.size := by
      have := (List.getElem?_eq_some_iff.mp hu2).1
      simpa using this
    have hzl : I + 4 < s.heap.objs.size := Heap.lt_size st.zip
    refine wpAny_pyNext_zipD2_item (zsep ha hb) D1 D2 st.zip st.ti hTO ⟨st.one, p.isList⟩ ⟨st.two, p2⟩ l1 l2 fun v1 v2 h' tk q1 q2 z' to' s1 s2 hT hsz hk => ?_
    have e1 : u = v1 := by
      have q1 : its.toArray[i]? = some v1 := q1
      rw [show its.toArray[i]? = its[i]? by simp, hu] at q1
      exact Option.some.inj q1
    have e2 : u2 = v2 := by
      have q2 : its2.toArray[i]? = some v2 := q2
      rw [show its2.toArray[i]? = its2[i]? by simp, hu2] at q2
      exact Option.some.inj q2
    subst e1
    subst e2
    refine ⟨_, rfl, ?_⟩
    refine wpAny_letOwnedTupleGo_zip (s := { s with heap := h', toks := tk }) z' fun h'' z'' sb => ?_
    have hT2 : IsPair h'' s.heap.objs.size u u2 := (sb.2 _ (Nat.ne_of_gt hzl)).trans hT
    have new : ObjOk X.prog X.w (upd H s.heap.objs.size (.tup [x, y])) h'' s.heap.objs.size (.tup [x, y]) :=
      ⟨show 2 ≤ sizeLine by decide, [u, u2], .cons ru (.cons ru2 .nil), ⟨_, hT2, rfl, _, rfl⟩⟩
    have I1 : Inv X pins σ (upd H s.heap.objs.size (.tup [x, y])) { s with heap := h'', toks := tk } := by
      refine Iv.turnedNew (t' := tk) (ch := [I + 4, I + 2, I + 3, I, I + 1]) (fun c o hn e => ?_) hf (Nat.le_refl _) new
      have n1 : c ≠ I + 4 := fun z => hn (by simp [z])
      exact (sb.2 c n1).trans (hk c o n1 (fun z => hn (by simp [z])) (fun z => hn (by simp [z])) (fun z => hn (by simp [z])) e)
    refine ⟨.ref s.heap.objs.size, _, I1, rfl, ⟨_, x, y, rfl, Iv.hok.fresh (Nat.le_refl _), rfl, ?_, ?_⟩, ?_, fun c hcm => ?_⟩
    · intro l hl
      rw [Iv.list_inj hl hqx]
      exact hx
    · intro l hl
      rw [Iv.tuple_inj hl hqy]
      exact hy
    · have g1 := (List.getElem?_eq_some_iff.mp hx).1
      have g2 := (List.getElem?_eq_some_iff.mp hy).1
      exact ⟨z'', (sb.2 _ (neN (by omega))).trans (hk _ _ (neN (by omega)) (neN (by omega)) (neN (by omega)) (neN (by omega)) st.ti), ⟨u, u2, (sb.2 _ (neN (by omega))).trans to'⟩,
        s1.1.at fun o z => (sb.2 _ (neN (by omega))).trans z, s2.1.at fun o z => (sb.2 _ (neN (by omega))).trans z, by omega, by omega⟩
    · have hlt : c < s.heap.objs.size := by
        rcases fp5 hcm with rfl | rfl | rfl | rfl | rfl <;> exact ltN (by omega)
      rw [upd_ne (Nat.ne_of_lt hlt)]
      exact (hf c hcm).1
  done := by
    intro X hP hw hK hc i pins s σ H E Iv hf st hg
    subst hP hw hK
    obtain ⟨x0, y0, hTO⟩ := st.to
    obtain ⟨xs, ys, ⟨hqx, hxl⟩, ⟨hqy, hyl⟩, hend⟩ := hg
    obtain ⟨its, rv, p, _⟩ := Iv.list hqx
    obtain ⟨its2, rv2, p2, _⟩ := Iv.tuple hqy
    have hh : X.A.in1.handled = none := Iv.ok.hd hc
    have D1 := Draws.list (prog := X.prog) (w := X.w) hh I a (Nat.ne_of_lt ha) its.toArray
    have D2 := Draws.tuple (prog := X.prog) (w := X.w) hh (I + 1) b (Nat.ne_of_lt (Nat.lt_succ_of_lt hb)) its2.toArray
    have l1 : its.toArray.size = n := by rw [List.size_toArray, ← rv.length, hxl]
    have l2 : its2.toArray.size = m := by rw [List.size_toArray, ← rv2.length, hyl]
    have b1 := st.le1
    have b2 := st.le2
    refine wpAny_pyNext_zipD2_end (zsep ha hb) D1 D2 st.zip st.ti hTO ⟨st.one, p.isList⟩ ⟨st.two, p2⟩ (by omega) (by omega) (by omega) fun h' tk hk => ⟨rfl, ?_⟩
    exact Iv.turnedL (t' := tk) (ch := [I + 4, I + 2, I + 3, I, I + 1]) (fun c o hn e =>
      hk c o (fun z => hn (by simp [z])) (fun z => hn (by simp [z])) (fun z => hn (by simp [z])) (fun z => hn (by simp [z])) e) hf
  self := fun A i s Q E st h => wpAny_pyIter_zip st.zip h
/-! ### zip(xs, ys) is made -/
def zx1 (h : Heap) (a : Addr) : Heap := h.push { cls := .type "list_iterator", data := .fields #[.ref a, .int 0 0] }
def zx2 (h : Heap) (a b : Addr) : Heap := (zx1 h a).push { cls := .type "tuple_iterator", data := .fields #[.ref b, .int 0 0] }
def zx3 (h : Heap) (a b : Addr) : Heap := (zx2 h a b).push { cls := .type "tuple", data := .seq #[.ref h.objs.size, .ref (zx1 h a).objs.size] }
def zx4 (h : Heap) (a b : Addr) : Heap := (zx3 h a b).push { cls := .type "tuple", data := .seq #[.none, .none] }
def zx5 (h : Heap) (a b : Addr) : Heap := (zx4 h a b).push { cls := .type "zip", data := .fields #[.none, .bool false, .bool false, .ref (zx2 h a b).objs.size, .ref (zx3 h a b).objs.size] }
theorem zx_new (a b : Addr) (xs ys : Array Value) : Meets (Builtin.«zip.__new__» ⟨[.type "zip", .ref a, .ref b], []⟩) (fun _ R s =>
      s.heap.IsList a xs ∧ s.heap.IsTuple b ys ∧ R (.ok (.ret (.ref (zx4 s.heap a b).objs.size))) { s with heap := zx5 s.heap a b }) :=
  .of_wp fun prog w A R s h => by
    obtain ⟨hp, g, d, tk, os⟩ := s
    obtain ⟨hl1, hl2, h⟩ := h
    have hsub := sub_zip
    have L1 : Heap.IsList (Shared.heap ⟨hp, g, d, tk, os⟩) a xs := hl1
    have L2 : Heap.IsTuple (Shared.heap ⟨zx1 hp a, g, d, tk, os⟩) b ys := Heap.IsTuple.push hl2 _
    unfold zx1 at L2
    wp_walk using wpAny_pyIter_list L1, wpAny_pyIter_tuple L2
    exact ⟨_, rfl, h⟩
section
variable {prog : Program} {w : World} {A : Around} {E : Value → Shared → Prop} {s : Shared}
theorem call_zipX {a b : Addr} {xs ys : Array Value} {Q : Value → Shared → Prop} (n m : Nat) (hl1 : s.heap.IsList a xs) (hl2 : s.heap.IsTuple b ys)
    (h : ∀ h', ZSt s.heap.objs.size a b n m 0 h' → (∀ c o, s.heap.get? c = some o → h'.get? c = some o) → Q (.ref (s.heap.objs.size + 4)) { s with heap := h' }) :
    wpAny (model prog w) A (call (.type "zip") [.ref a, .ref b]) Q E s := by
  refine callType_new F.called_zip (by decide) (F.typeCall_zip_2 _ _) (F.newCall_zip_2 _ _) (fun obj => F.args_object_init_3 obj _ _)
    F.entry_zip_new (zx_new a b xs ys) ⟨hl1, hl2, ?_⟩
  have s1 : (zx1 s.heap a).objs.size = s.heap.objs.size + 1 := Heap.size_push ..
  have s2 : (zx2 s.heap a b).objs.size = s.heap.objs.size + 2 := (Heap.size_push ..).trans (by rw [s1])
  have s3 : (zx3 s.heap a b).objs.size = s.heap.objs.size + 3 := (Heap.size_push ..).trans (by rw [s2])
  have s4 : (zx4 s.heap a b).objs.size = s.heap.objs.size + 4 := (Heap.size_push ..).trans (by rw [s3])
  have k5 : ∀ {c o}, (zx4 s.heap a b).get? c = some o → (zx5 s.heap a b).get? c = some o := fun e => Heap.get?_push_of_some _ e
  have k4 : ∀ {c o}, (zx3 s.heap a b).get? c = some o → (zx5 s.heap a b).get? c = some o := fun e => k5 (Heap.get?_push_of_some _ e)
  have k3 : ∀ {c o}, (zx2 s.heap a b).get? c = some o → (zx5 s.heap a b).get? c = some o := fun e => k4 (Heap.get?_push_of_some _ e)
  have k2 : ∀ {c o}, (zx1 s.heap a).get? c = some o → (zx5 s.heap a b).get? c = some o := fun e => k3 (Heap.get?_push_of_some _ e)
  have g5 : (zx5 s.heap a b).get? (zx4 s.heap a b).objs.size = some _ := Heap.get?_push_size _ rfl
  have g4 : (zx5 s.heap a b).get? (zx3 s.heap a b).objs.size = some _ := k5 (Heap.get?_push_size _ rfl)
  have g3 : (zx5 s.heap a b).get? (zx2 s.heap a b).objs.size = some _ := k4 (Heap.get?_push_size _ rfl)
  have g2 : (zx5 s.heap a b).get? (zx1 s.heap a).objs.size = some _ := k3 (Heap.get?_push_size _ rfl)
  have g1 : (zx5 s.heap a b).get? s.heap.objs.size = some _ := k2 (Heap.get?_push_size _ rfl)
  show _ ∧ _
  rw [s2, s3, s4] at g5
  rw [s3] at g4
  rw [s1, s2] at g3
  rw [s1] at g2
  rw [s4]
  exact ⟨⟨_, g5, rfl⟩, h _ ⟨g5, g3, ⟨_, _, g4⟩, ⟨_, g1, rfl, rfl⟩, ⟨_, g2, rfl, rfl⟩, Nat.zero_le _, Nat.zero_le _⟩ fun c o e => k2 (Heap.get?_push_of_some _ e)⟩
end
def iZipX (K : PySem.W.Frag) (ta : TA) : TI := fun σ H R => ta σ H fun vs H1 => ∃ a b xs ys, vs = [.ref a, .ref b] ∧ SqL K H1 a xs ∧ SqT K H1 b ys ∧ R (ItzX K a b xs.length ys.length) H1
theorem pi_zipX {X : Cx} {e e2 : Expr} {ta : TA} {p pos tpos : Pos} {elts : List Expr} {kk : Nat} (hg : Gl X "zip") (hm : X.mg "zip" = none) (ha : PA X [e, e2] ta)
    (hs : starEach [e, e2] X.env = (false, eval e X.env) :: starEach [e2] X.env := by rfl) (hpl : (backTo pos (starEach [e2] X.env)).any (·.1) = false := by rfl) :
    PI X (.Tuple elts kk tpos) (.Call (.Name "zip" p) [e, e2] [] pos) (iZipX X.K ta) := ⟨fun pins s σ H R I h => by
  refine Call_ (ld_blt I hg hm boot_zip (callWith_type1 (thn (ha.run pos pins s σ H _ I h) fun us s1 ⟨vs, H1, I1, r1, q1⟩ => ?_) hs hpl))
  obtain ⟨a, b, xs, ys, rfl, hqx, hqy, q⟩ := q1
  obtain ⟨u1, r, rfl, e1, r2⟩ : ∃ u r, us = u :: r ∧ RelV (.ref a) u ∧ Vals [.ref b] r := by
    cases r1 with
    | cons x y => exact ⟨_, _, rfl, x, y⟩
  obtain ⟨u2, rfl, e2⟩ := vals1 r2
  cases e1
  cases e2
  obtain ⟨its, rv, p1, _⟩ := I1.list hqx
  obtain ⟨its2, rv2, p2, _⟩ := I1.tuple hqy
  obtain ⟨o2, ho2, _⟩ := id p2
  refine call_zipX xs.length ys.length p1.isList p2 fun h' st hk => ?_
  have I2 : Inv X pins σ H1 { s1 with heap := h' } := I1.kept (t' := s1.toks) hk
  refine wpAny_pyIter_zip st.zip ⟨_, _, _, _, H1, rfl, I2, turn_zipX p1.lt (Heap.lt_size ho2), st, fun c hc => ?_, q⟩
  have hle : s1.heap.objs.size ≤ c := by
    rcases fp5 hc with rfl | rfl | rfl | rfl | rfl <;> omega
  exact I1.fpOk hle (I1.hok.fresh hle)⟩
end Mi
/-! zip of lists and tuples, whatever they are. -/
namespace Mi
open PySem L2
def mZipX {T : Type} (fa fb : ME T) : Env → T → Option (List PyData × T) := fun ρ t => do
  let (r1, t1) ← fa ρ t
  let (r2, t2) ← fb ρ t1
  let x ← still ρ r1
  let y ← still ρ r2
  match x, y with
  | .list xs, .tuple ys => some (zipL xs ys, t2)
  | _, _ => none
section
variable {Γ : Gm} {X : Cx} {a b : Expr} {pos p : Pos} {fa fb : ME Γ.T}
theorem pi_zipXD {elts : List Expr} {kk : Nat} {tpos : Pos} (hK : X.K = Γ.K) (hg : Gl X "zip") (hm : X.mg "zip" = none) (ha : PE X a (den Γ fa)) (hb : PE X b (den Γ fb))
    (hs : starEach [a, b] X.env = (false, eval a X.env) :: starEach [b] X.env := by rfl) (hs2 : starEach [b] X.env = (false, eval b X.env) :: starEach [] X.env := by rfl) (hpl : (backTo pos (starEach [b] X.env)).any (·.1) = false := by rfl) :
    PI X (.Tuple elts kk tpos) (.Call (.Name "zip" p) [a, b] [] pos) (denI Γ (mZipX fa fb)) := pi_w (pi_zipX hg hm (pa_cons ha (pa_cons hb pa_nil hs2) hs) hs hpl) fun σ H Rr => by
  rintro ⟨F, ρ, t, items, t', R, e, q⟩
  obtain ⟨⟨r1, t1⟩, e1, e⟩ := bind_some e
  obtain ⟨⟨r2, t2⟩, e2, e⟩ := bind_some e
  obtain ⟨x, ex, e⟩ := bind_some e
  obtain ⟨y, ey, e⟩ := bind_some e
  have fin : ∀ {F' H' : Hp} {t3 : Γ.T} {x y : PyData} {u v : V}, Fin Γ F' H' t3 → Dq Γ.K F' u x → Dq Γ.K F' v y → ∀ T, H' T = none → ∃ F'', Ext [] F' H' F'' (upd H' T (.tup [u, v])) ∧ Dq Γ.K F'' (.ref T) (.tuple [x, y]) := fun {F' H' t3 x y u v} R' k k' T hT =>
    ⟨_, Ext.keep R'.ex hT, .tup (.of upd_same) (.cons (k.mono (Ext.keep (S := []) R'.ex hT).f) (.cons (k'.mono (Ext.keep (S := []) R'.ex hT).f) .nil))⟩
  refine ⟨F, ρ, t, r1, t1, R, e1, fun v1 F1 H1 R1 x1 k1 => ⟨F1, ρ, t1, r2, t2, R1, e2, fun v2 F2 H2 R2 x2 k2 => ?_⟩⟩
  have s1 := still_ok ex R2 (k1.mono x2.f)
  have s2 := still_ok ey R2 k2
  split at e
  · rename_i xs ys _
    cases e
    have listy : ∀ {F' H' : Hp} {t3 : Γ.T}, Same F2 F' → Fin Γ F' H' t3 → ∃ q vs, v1 = .ref q ∧ DqA Γ.K F' vs xs ∧ SqL Γ.K H' q vs := fun {F' H' t3} sm R' => by
      obtain ⟨q1, vs1, z, g1, j1⟩ := sq_of R'.ex (stays sm R' s1 R2.toFin) (show itemsOf (.list xs) = some xs from rfl)
      rcases j1 with ⟨_, j1⟩ | ⟨⟨es, z⟩, _⟩
      · exact ⟨q1, vs1, z, g1, j1⟩
      · cases z
    have tupley : ∀ {F' H' : Hp} {t3 : Γ.T}, Same F2 F' → Fin Γ F' H' t3 → ∃ q vs, v2 = .ref q ∧ DqA Γ.K F' vs ys ∧ SqT Γ.K H' q vs := fun {F' H' t3} sm R' => by
      obtain ⟨q1, vs1, z, g1, j1⟩ := sq_of R'.ex (stays sm R' s2 R2.toFin) (show itemsOf (.tuple ys) = some ys from rfl)
      rcases j1 with ⟨⟨es, z⟩, _⟩ | ⟨_, j1⟩
      · cases z
      · exact ⟨q1, vs1, z, g1, j1⟩
    obtain ⟨q1, vs1, rfl, g1, j1⟩ := listy (Same.refl F2) R2.toFin
    obtain ⟨q2, vs2, rfl, g2, j2⟩ := tupley (Same.refl F2) R2.toFin
    rw [hK]
    refine ⟨q1, q2, vs1, vs2, rfl, j1, j2, q F2 H2 _ R2 (x1.then x2 R2) fun i F' H' t3 s R' => ?_⟩
    obtain ⟨p1, us1, z1, h1, hq1⟩ := listy s R'
    obtain ⟨p2, us2, z2, h2, hq2⟩ := tupley s R'
    cases z1
    cases z2
    have e1 : us1.length = vs1.length := by rw [h1.length, g1.length]
    have e2 : us2.length = vs2.length := by rw [h2.length, g2.length]
    refine ⟨fun d hd => ?_, fun hi => ⟨us1, us2, ⟨hq1, e1⟩, ⟨hq2, e2⟩, ?_⟩⟩
    · obtain ⟨a, b, ha, hb, rfl⟩ := zipL_at hd
      obtain ⟨u, hu, ku⟩ := h1.get ha
      obtain ⟨w, hw, kw⟩ := h2.get hb
      refine ⟨⟨us1, us2, u, w, ⟨hq1, e1⟩, ⟨hq2, e2⟩, hu, hw⟩, fun x' H'' yl => ?_⟩
      obtain ⟨T, u', w', rfl, hT, rfl, y1, y2⟩ := yl
      have e1 := y1 _ hq1
      have e2 := y2 _ hq2
      rw [hu] at e1
      rw [hw] at e2
      cases e1
      cases e2
      exact fin R' ku kw T hT
    · rw [zipL_len] at hi
      rw [g1.length, g2.length]
      omega
  · cases e
def mZip2 {T : Type} (fa fb : ME T) : Env → T → Option (List PyData × T) := fun ρ t => match mZip fa fb ρ t with
  | some r => some r
  | none => mZipX fa fb ρ t
theorem pi_zip2D {elts : List Expr} {kk : Nat} {tpos : Pos} (hK : X.K = Γ.K) (hg : Gl X "zip") (hm : X.mg "zip" = none) (ha : PE X a (den Γ fa)) (hb : PE X b (den Γ fb))
    (hs : starEach [a, b] X.env = (false, eval a X.env) :: starEach [b] X.env := by rfl) (hs2 : starEach [b] X.env = (false, eval b X.env) :: starEach [] X.env := by rfl) (hpl : (backTo pos (starEach [b] X.env)).any (·.1) = false := by rfl) :
    PI X (.Tuple elts kk tpos) (.Call (.Name "zip" p) [a, b] [] pos) (denI Γ (mZip2 fa fb)) := pi_w (pi_or (pi_zipD hK hg hm ha hb hs hs2 hpl) (pi_zipXD hK hg hm ha hb hs hs2 hpl)) fun σ H Rr => by
  rintro ⟨F, ρ, t, items, t', R, e, q⟩
  unfold mZip2 at e
  split at e
  · rename_i r er
    cases e
    exact .inl ⟨F, ρ, t, items, t', R, er, q⟩
  · exact .inr ⟨F, ρ, t, items, t', R, e, q⟩
end
section
variable {T : Type} {ρ : Env} {t : T} {fa fb : ME T} {QL : List PyData → T → Prop}
theorem i_zip2 (h : Ew fa ρ t fun x t1 => Ew fb ρ t1 fun y t2 => ∃ xs ys, ((x = .list xs ∧ y = .list ys) ∨ (x = .tuple xs ∧ y = .tuple ys) ∨ (x = .list xs ∧ y = .tuple ys)) ∧ QL (zipL xs ys) t2) : Eg (mZip2 fa fb) ρ t QL := by
  obtain ⟨r1, t1, x, e1, ex, r2, t2, y, e2, ey, xs, ys, hc, q⟩ := h
  refine ⟨_, t2, ?_, q⟩
  have stepZ : ∀ g : T → PyData → PyData → Option (List PyData × T), (do
      let (r1, t1) ← fa ρ t
      let (r2, t2) ← fb ρ t1
      let x ← still ρ r1
      let y ← still ρ r2
      g t2 x y) = g t2 x y := fun g => by
    rw [e1]
    show (fb ρ t1 >>= _) = _
    rw [e2]
    show (still ρ r1 >>= _) = _
    rw [ex]
    show (still ρ r2 >>= _) = _
    rw [ey]
    rfl
  unfold mZip2
  rcases hc with ⟨rfl, rfl⟩ | ⟨rfl, rfl⟩ | ⟨rfl, rfl⟩
  · rw [show mZip fa fb ρ t = some (zipL xs ys, t2) from stepZ fun t2 x y => match x, y with
      | .list xs, .list ys => some (zipL xs ys, t2)
      | .tuple xs, .tuple ys => some (zipL xs ys, t2)
      | _, _ => none]
  · rw [show mZip fa fb ρ t = some (zipL xs ys, t2) from stepZ fun t2 x y => match x, y with
      | .list xs, .list ys => some (zipL xs ys, t2)
      | .tuple xs, .tuple ys => some (zipL xs ys, t2)
      | _, _ => none]
  · rw [show mZip fa fb ρ t = none from stepZ fun t2 x y => match x, y with
      | .list xs, .list ys => some (zipL xs ys, t2)
      | .tuple xs, .tuple ys => some (zipL xs ys, t2)
      | _, _ => none]
    exact stepZ fun t2 x y => match x, y with
      | .list xs, .tuple ys => some (zipL xs ys, t2)
      | _, _ => none
theorem zz2_L {xs ys : List PyData} {P : List PyData → List PyData → Prop} (q : P xs ys) : ∃ as bs, ((PyData.list xs = .list as ∧ PyData.list ys = .list bs) ∨ (PyData.list xs = .tuple as ∧ PyData.list ys = .tuple bs) ∨ (PyData.list xs = .list as ∧ PyData.list ys = .tuple bs)) ∧ P as bs := ⟨xs, ys, .inl ⟨rfl, rfl⟩, q⟩
theorem zz2_T {xs ys : List PyData} {P : List PyData → List PyData → Prop} (q : P xs ys) : ∃ as bs, ((PyData.tuple xs = .list as ∧ PyData.tuple ys = .list bs) ∨ (PyData.tuple xs = .tuple as ∧ PyData.tuple ys = .tuple bs) ∨ (PyData.tuple xs = .list as ∧ PyData.tuple ys = .tuple bs)) ∧ P as bs := ⟨xs, ys, .inr (.inl ⟨rfl, rfl⟩), q⟩
theorem zz2_X {xs ys : List PyData} {P : List PyData → List PyData → Prop} (q : P xs ys) : ∃ as bs, ((PyData.list xs = .list as ∧ PyData.tuple ys = .list bs) ∨ (PyData.list xs = .tuple as ∧ PyData.tuple ys = .tuple bs) ∨ (PyData.list xs = .list as ∧ PyData.tuple ys = .tuple bs)) ∧ P as bs := ⟨xs, ys, .inr (.inr ⟨rfl, rfl⟩), q⟩
end
end Mi
/-! xs[i], y = d, e; sum of a tuple. -/
namespace Mi
open PySem L2 PySem.Spec PyProof.Rows
section
variable {Γ : Gm} {X : Cx} {a b o k : Expr} {es : List Expr} {pos q2 : Pos} {fa fb fk : ME Γ.T}
def hN {T : Type} (i : Nat) : PyData → Env → T → Option (Env × T) := fun d ρ t => some (ρ.set i (some (.fro d)), t)
def hT {T : Type} (g : List PyData → Env → T → Option (Env × T)) (n : Nat) : PyData → Env → T → Option (Env × T) := fun d ρ t => match d with
  | .tuple ds => if ds.length = n then g ds ρ t else none
  | _ => none
def hs0 {T : Type} : List PyData → Env → T → Option (Env × T) := fun ds ρ t => match ds with
  | [] => some (ρ, t)
  | _ => none
def hs1 {T : Type} (g : PyData → Env → T → Option (Env × T)) (h : List PyData → Env → T → Option (Env × T)) : List PyData → Env → T → Option (Env × T) := fun ds ρ t => match ds with
  | d :: r => (g d ρ t).bind fun z => h r z.1 z.2
  | [] => none
end
section
variable {T : Type} {ρ : Env} {t : T} {f fk : ME T} {N : Env → T → Prop} {R : PyData → T → Prop} {B C : Env → T → Prop}
end
/-! ### sum of a tuple -/
end Mi
/-! x.extend(a list). -/
namespace Mi
open PySem L2 PySem.Spec PyProof.Rows
section
variable {Γ : Gm} {X : Cx} {a : Expr} {pos : Pos} {fa : ME Γ.T}
end
section
variable {T : Type} {ρ : Env} {t : T} {i : Nat} {f : ME T} {N : Env → T → Prop} {R : PyData → T → Prop} {B C : Env → T → Prop}
end
end Mi
/-! The tray that is a list: [far, a number, a number]. -/
namespace Mi
open PySem L2
namespace LT
abbrev keys : List Str := ["1", "2"]
def lents (g : Addr) (es : List (Str × Int)) : List V := .ref g :: es.map fun e => V.int e.2
def TrAt (fk : Str) (ta g : Addr) (t : Tr) (H : Hp) : Prop := (H ta = some (.lst (lents g t.es)) ∧ t.es.map Prod.fst = keys) ∧ H g = some (.lst (t.far.map .int))
theorem two {es : List (Str × Int)} (h : es.map Prod.fst = keys) : ∃ a b : Int, es = [(("1" : Str), a), (("2" : Str), b)] := by
  match es, h with
  | [(x, a), (y, b)], h =>
    cases h
    exact ⟨a, b, rfl⟩
def Gt (w : World) (K : PySem.W.Frag) (fk : Str) (ta g : Addr) (F H : Hp) : Gm :=
  { K := K, w := w, S := [ta, g], T := Tr, In := TrAt fk ta g, loc := fun t H H' h q => ⟨⟨by rw [h ta (by simp)]; exact q.1.1, q.1.2⟩, by rw [h g (by simp)]; exact q.2⟩,
    has := fun t H a ha q => by
      rcases List.mem_cons.mp ha with rfl | ha
      · exact ⟨_, q.1.1⟩
      · cases List.mem_singleton.mp ha
        exact ⟨_, q.2⟩
    F0 := F, H0 := H, ta := fun k => match k with | 0 => .ref ta | _ => .ref g }
section
variable {K : PySem.W.Frag} {fk : Str} {ta g : Addr} {F0 H0 : Hp} {X : Cx} {o a b : Expr} {fo fa : ME Tr} {pos p2 : Pos} {j : Nat} {k : Str}
end
def spT (K : PySem.W.Frag) (fk : Str) (bs : List Bool) (m : Tr → List PyData → Option (PyData × Tr)) : Sp := fun vs H Q _ => ∃ ta g F t ds d t' ws, vs = .ref ta :: ws ∧ Same F H ∧ F ta = none ∧ F g = none ∧ TrAt fk ta g t H ∧ ArgOk K [ta, g] F H bs ws ds ∧ m t ds = some (d, t') ∧
  ∀ v F' H', Ext [ta, g] F H F' H' → F' ta = none → F' g = none → TrAt fk ta g t' H' → Dq K F' v d → Q v H'
section
variable {K : PySem.W.Frag} {fk : Str} {ta g : Addr} {F0 H0 : Hp} {X : Cx} {a : Expr} {es : List Expr} {pos p : Pos} {x : Str} {k : Nat} {f : Addr} {fd : FuncData} {ps : List Str} {bs : List Bool} {m : Tr → List PyData → Option (PyData × Tr)} {ga : Env → Tr → Option (List Rv × Tr)}
end
/-- the tray as the def that makes it answers it -/
def trD (fk : Str) (t : Tr) : PyData := .list (.list (t.far.map .int) :: t.es.map fun e => .int e.2)
section
variable {K : PySem.W.Frag} {fk : Str} {ta g : Addr} {F0 H0 : Hp} {X : Cx} {a : Expr} {es : List Expr} {pos p : Pos} {x : Str} {st : Stmt} {k j : Nat} {f : Addr} {fd : FuncData} {ps : List Str} {bs : List Bool} {m : Tr → List PyData → Option (PyData × Tr)} {ga : Env → Tr → Option (List Rv × Tr)}
end
end LT
end Mi
/-! tuple(range(n)). -/
namespace Mi
open PySem PySem.Spec PyProof.Rows L2
section
variable {X : Cx} {Γ : Gm} {a b : Expr} {fa fb : ME Γ.T} {p p2 pos pos2 : Pos}
end
end Mi
/-! A tuple many times over. -/
namespace L2
open PySem PySem.Spec PyProof.Rows
section
variable {X : Cx}
end
end L2
namespace Mi
open PySem PySem.Spec PyProof.Rows L2
end Mi
/-! xs.index(d), xs.count(d) of lists, items of any kind. -/
namespace L2
open PySem PySem.Spec PyProof.Rows
section
variable {X : Cx}
end
end L2
namespace Mi
open PySem PySem.Spec PyProof.Rows L2
theorem hu65 {k : Nat} {A : Around} (hr : Room k A) : A.units + 65 < cLine := by have := hr.un; omega
section
variable {X : Cx} {Γ : Gm} {o a : Expr} {fo fa : ME Γ.T} {apos cpos : Pos}
def idxM (x y : PyData) : Option PyData := match x with
  | .list ds => if SeqAt.shaped (.list ds) = true ∧ SeqAt.shaped y = true then (ds.findIdx? fun z => PyData.eqv z y).map fun j => .int ((j : Nat) : Int) else none
  | _ => none
theorem idxM_some {x y z : PyData} (h : idxM x y = some z) : ∃ ds j, x = .list ds ∧ z = .int ((j : Nat) : Int) ∧ SeqAt.shaped (.list ds) = true ∧ SeqAt.shaped y = true ∧ ds.findIdx? (fun z => PyData.eqv z y) = some j := by
  unfold idxM at h
  split at h
  · split at h
    · rename_i hsh
      obtain ⟨j, hj, rfl⟩ := Option.map_eq_some_iff.mp h
      exact ⟨_, j, rfl, rfl, hsh.1, hsh.2, hj⟩
    · cases h
  · cases h
/-- a method of a list with one argument -/
def mMth {T : Type} (g : PyData → PyData → Option PyData) (fo fa : ME T) : ME T := fun ρ t => do
  let (r1, t1) ← fo ρ t
  let (r2, t2) ← fa ρ t1
  let x ← rd ρ r1
  let y ← rd ρ r2
  let z ← g x y
  pure (.fro z, t2)
theorem pe_idxM (hu : X.A.units + 65 < cLine) (hK : X.K = Γ.K) (ho : PE X o (den Γ fo)) (ha : PE X a (den Γ fa)) (hs1 : starEach [a] X.env = (false, eval a X.env) :: starEach [] X.env := by rfl) (hbase : attributeBase o "index" X.env (eval o X.env) = eval o X.env := by rfl)
    (hfew : ((backTo cpos (starEach [a] X.env)).all (fun x => !x.1) && (backToKw cpos (keywordEach [] X.env)).all (fun x => x.1.isSome) && decide ([a].length + ([] : List Keyword).length + (if ([] : List Keyword).isEmpty then 0 else 1) < 30)) = true := by rfl)
    (hline : (apos.endLine == cpos.line) = true := by rfl) (hplain : (backTo cpos (starEach [] X.env)).any (·.1) = false := by rfl) : PE X (.Call (.Attribute o "index" apos) [a] [] cpos) (den Γ (mMth idxM fo fa)) := by
  refine pe_w (pe_bm PySem.F.plainAttrs_list PySem.F.slot_list_index PySem.F.type_list_index (mt_indexD hu) ho (pa_cons ha pa_nil hs1) hbase hfew hline hs1 hplain) fun σ H Q => ?_
  rintro ⟨F, ρ, t, r, t', R, e, q⟩
  obtain ⟨⟨r1, t1⟩, e1, e⟩ := bind_some e
  obtain ⟨⟨r2, t2⟩, e2, e⟩ := bind_some e
  obtain ⟨x, ex, e⟩ := bind_some e
  obtain ⟨y, ey, e⟩ := bind_some e
  obtain ⟨z, ez, e⟩ := bind_some e
  cases e
  obtain ⟨ds, j, rfl, rfl, sh1, sh2, hj⟩ := idxM_some ez
  refine ⟨F, ρ, t, _, _, R, e1, fun v F1 H1 R1 x1 k1 => ⟨?_, F1, ρ, _, _, _, R1, e2, fun w F2 H2 R2 x2 k2 => ?_⟩⟩
  · obtain ⟨p, vs, rfl, h1, _⟩ := R1.read k1 ex
    exact .inl ⟨rfl, _, .of h1⟩
  · have dv := R2.read (k1.mono x2.f) ex
    have dw := R2.read k2 ey
    obtain ⟨p, vs, rfl, h1, k⟩ := id dv
    obtain ⟨hlt, h3, h4⟩ := List.findIdx?_eq_some_iff_getElem.mp hj
    rw [hK]
    refine ⟨p, w, y, ds, j, ds[j], rfl, rfl, Dv.dp R2.ex dv (SeqAt.canLay_of_shaped sh1), Dv.dp R2.ex dw (SeqAt.canLay_of_shaped sh2), sh1, sh2, List.getElem?_eq_getElem hlt, h3, fun m z' hm hz' => ?_, q _ F2 H2 R2 (x1.then x2 R2) (.int _)⟩
    obtain ⟨hml, rfl⟩ := List.getElem?_eq_some_iff.mp hz'
    exact eq_false_of_ne_true (h4 m hm)
end
section
variable {T : Type} {ρ : Env} {t : T} {fo fa : ME T} {Q : PyData → T → Prop} {g : PyData → PyData → Option PyData}
theorem f_mth (h : Ed fo ρ t fun x t1 => Ed fa ρ t1 fun y t2 => ∃ z, g x y = some z ∧ Q z t2) : Ef (mMth g fo fa) ρ t Q := by
  obtain ⟨r1, t1, x, e1, ex, r2, t2, y, e2, ey, z, ez, q⟩ := h
  refine ⟨_, t2, ?_, q⟩
  unfold mMth
  rw [e1]
  show (fa ρ t1 >>= _) = _
  rw [e2]
  show (rd ρ r1 >>= _) = _
  rw [ex]
  show (rd ρ r2 >>= _) = _
  rw [ey]
  show (g x y >>= _) = _
  rw [ez]
  rfl
end
end Mi
/-! dict([(k, v), ..]), ints all. -/
namespace Mi
open PySem PySem.Spec PyProof.Rows L2
end Mi
/-! range(i, j, -1). -/
namespace Mi
open PySem PySem.Spec PyProof.Rows L2
section
variable {Γ : Gm} {X : Cx} {tg a b c : Expr} {p pos : Pos} {ga : Env → Γ.T → Option (List Rv × Γ.T)}
end
section
variable {T : Type} {ρ : Env} {t : T} {fs : Env → T → Option (List Rv × T)} {QL : List PyData → T → Prop}
end
end Mi
/-! tuple(reversed(xs)), len(set(xs)) of ints. -/
namespace Mi
open PySem PySem.Spec PyProof.Rows L2
section
variable {Γ : Gm} {X : Cx} {a : Expr} {p p2 pos pos2 : Pos} {fa : ME Γ.T}
end
section
variable {T : Type} {ρ : Env} {t : T} {f : ME T} {Q : PyData → T → Prop}
end
end Mi
/-! sorted(xs), xs a list or a tuple of data alike. -/
namespace PySem.W
open PySem PySem.Calls PyProof.Rows
section
variable {prog : Program} {w : World} {A : Around} {E : Value → Shared → Prop} {s : Shared} {β : Type} {vs : List Value} {bs : List β} {enc : β → PyData} {R : Value → β → Prop}
end
end PySem.W
namespace L2
open PySem PySem.Spec PyProof.Rows
section
variable {X : Cx}
end
end L2
namespace Mi
open PySem L2 PySem.W
section
variable {X : Cx} {pins : List (Addr × Obj)} {σ : L2.St} {H F : Hp} {s : Shared}
end
/-! ### x.extend(a tuple) -/
section
variable {Γ : Gm} {X : Cx} {a : Expr} {pos : Pos} {fa : ME Γ.T}
end
section
variable {T : Type} {ρ : Env} {t : T} {i : Nat} {f : ME T} {N : Env → T → Prop} {R : PyData → T → Prop} {B C : Env → T → Prop}
end
/-! ### a tuple of the module -/
mutual
inductive KD (K : PySem.W.Frag) : Value → PyData → Prop
  | non : KD K .none .none
  | bl (b : Bool) : KD K (.bool b) (.bool b)
  | int (i : Int) (t : Tok) : KD K (.int i t) (.int i)
  | str (x : Str) (t : Tok) : KD K (.str x t) (.str x)
  | tup {a : Addr} {od : Option Addr} {sl : Array (Option Value)} {its : List Value} {n : Nat} {ds : List PyData} : K.lookup a = some ⟨.type "tuple", od, .seq its.toArray n, sl⟩ → its.length ≤ sizeLine → KDs K its ds → KD K (.ref a) (.tuple ds)
inductive KDs (K : PySem.W.Frag) : List Value → List PyData → Prop
  | nil : KDs K [] []
  | cons {v : Value} {vs : List Value} {d : PyData} {ds : List PyData} : KD K v d → KDs K vs ds → KDs K (v :: vs) (d :: ds)
end
mutual
theorem KD.dq {K : PySem.W.Frag} : ∀ {v : Value} {d : PyData}, KD K v d → ∃ x, RelV x v ∧ ∀ F, Dq K F x d
  | _, _, .non => ⟨.non, rfl, fun _ => .non⟩
  | _, _, .bl b => ⟨.bl b, rfl, fun _ => .bl b⟩
  | _, _, .int i t => ⟨.int i, ⟨t, rfl⟩, fun _ => .int i⟩
  | _, _, .str x t => ⟨.str x, ⟨t, rfl⟩, fun _ => .str x⟩
  | _, _, .tup (a := a) (n := n) h1 h4 k => by
    obtain ⟨xs, r, h⟩ := KDs.dq k
    exact ⟨.ref a, rfl, fun F => .tup (.inr ⟨_, _, n, h1, rfl, rfl, by simpa using h4, by simpa using r⟩) (h F)⟩
theorem KDs.dq {K : PySem.W.Frag} : ∀ {vs : List Value} {ds : List PyData}, KDs K vs ds → ∃ xs, Vals xs vs ∧ ∀ F, DqA K F xs ds
  | _, _, .nil => ⟨[], .nil, fun _ => .nil⟩
  | _, _, .cons h t => by
    obtain ⟨x, r, h1⟩ := KD.dq h
    obtain ⟨xs, r2, h2⟩ := KDs.dq t
    exact ⟨x :: xs, .cons r r2, fun F => .cons (h1 F) (h2 F)⟩
end
end Mi
/-! min, max of a list or a tuple of ints; the truth of a tuple or a list. -/
namespace L2
open PySem PySem.Spec PyProof.Rows
section
variable {prog : Program} {w : World} {A : Around} {E : Value → Shared → Prop} {s : Shared} {l : Addr} {its : List Value} {ns : List Int} {Q : Value → Shared → Prop}
end
section
variable {X : Cx}
end
end L2
namespace Mi
open PySem L2
/-! ### the truth of a value -/
section
variable {X : Cx} {Γ : Gm} {a : Expr} {fa : ME Γ.T}
end
section
variable {T : Type} {ρ : Env} {t : T} {f : ME T} {QB : Bool → T → Prop}
end
end Mi
/-! dicts of one's own whose keys are tuples, nested. -/
namespace Mi
open PySem L2 PySem.Spec PyProof.Rows
def kget {α : Type} (es : List (NestedKey × α)) (k : NestedKey) : Option α := (es.find? fun p => decide (p.1 = k)).map (·.2)
def kput {α : Type} (es : List (NestedKey × α)) (k : NestedKey) (v : α) : List (NestedKey × α) := if (kget es k).isSome then es.map (fun p => if p.1 = k then (p.1, v) else p) else es ++ [(k, v)]
section
variable {h : Heap}
mutual
theorem nk_is : ∀ (d : PyData) (u : Value) (as : List Addr) (k : NestedKey), nkOf d = some k → Reads h u d as → NestedIs h k u
  | .none, _, _, _, e, r => by
    unfold nkOf at e; cases e; cases r; exact .none
  | .bool b, _, _, _, e, r => by
    unfold nkOf at e; cases e; cases r; exact .bool rfl
  | .int i, _, _, _, e, r => by
    unfold nkOf at e; cases e; cases r; exact .int _ _
  | .str x, _, _, _, e, r => by
    unfold nkOf at e; cases e; cases r; exact .text _ _
  | .tuple ds, _, _, _, e, r => by
    unfold nkOf at e
    cases z : nksOf ds with
    | none => rw [z] at e; cases e
    | some ks =>
      rw [z] at e
      cases e
      cases r with
      | tuple h1 h2 h3 h4 => exact .tup h1 h2 h3 (nks_is ds _ _ ks z (by simpa using h4))
  | .list _, _, _, _, e, _ => by unfold nkOf at e; cases e
  | .dict _, _, _, _, e, _ => by unfold nkOf at e; cases e
theorem nks_is : ∀ (ds : List PyData) (us : List Value) (as : List Addr) (ks : List NestedKey), nksOf ds = some ks → ReadsAll h us ds as → NestedAll h ks us
  | [], _, _, _, e, r => by
    unfold nksOf at e; cases e; cases r; exact .nil
  | d :: ds, _, _, _, e, r => by
    unfold nksOf at e
    cases z : nkOf d with
    | none => rw [z] at e; cases e
    | some k =>
      rw [z] at e
      cases z2 : nksOf ds with
      | none => rw [z2] at e; cases e
      | some ks =>
        rw [z2] at e
        cases e
        cases r with
        | cons r1 r2 => exact .cons (nk_is d _ _ k z r1) (nks_is ds _ _ ks z2 r2)
end
end
theorem nk8_out {d : PyData} {k : NestedKey} (h : nk8 d = some k) : nkOf d = some k ∧ k.depth ≤ 8 ∧ ∃ ds, d = .tuple ds := by
  unfold nk8 at h
  split at h
  · rename_i ds
    cases z : nkOf (.tuple ds) with
    | none => rw [z] at h; cases h
    | some k' =>
      rw [z, Option.bind_some] at h
      split at h
      · rename_i hz
        cases h
        exact ⟨rfl, hz, ds, rfl⟩
      · cases h
  · cases h
section
variable {X : Cx} {pins : List (Addr × Obj)} {σ : L2.St} {H F : Hp} {s : Shared}
theorem key_is (I : L2.Inv X pins σ H s) (sm : Same F H) {d : PyData} {k : NestedKey} {b : Addr} (hk : nk8 d = some k) (h : Dq X.K F (.ref b) d) : (nestedKind X.prog X.w).is s.heap k b := by
  obtain ⟨h1, h2, _⟩ := nk8_out hk
  obtain ⟨as, r, _⟩ := Dq.rds I sm d (.ref b) (.ref b) h rfl
  exact ⟨nk_is d _ as k h1 r, h2⟩
theorem key_ref {K : PySem.W.Frag} {d : PyData} {k : NestedKey} {v : V} (hk : nk8 d = some k) (h : Dq K F v d) : ∃ b, v = .ref b := by
  obtain ⟨_, _, ds, rfl⟩ := nk8_out hk
  cases h with
  | tup _ _ => exact ⟨_, rfl⟩
theorem dqx_is (I : L2.Inv X pins σ H s) (sm : Same F H) : ∀ {xs : List (NestedKey × Addr × Value)} {es : List (NestedKey × PyData)}, DqX X.K F xs es → ∀ x ∈ xs, (nestedKind X.prog X.w).is s.heap x.1 x.2.1
  | _, _, .nil, x, m => by cases m
  | _, _, .cons h1 h2 h3 h4 t, x, m => by
    rcases List.mem_cons.mp m with rfl | m
    · exact key_is I sm h1 h2
    · exact dqx_is I sm t x m
theorem kd_dict (I : L2.Inv X pins σ H s) (sm : Same F H) {a : Addr} {xs : List (NestedKey × Addr × Value)} {es : List (NestedKey × PyData)} (h : H a = some (kdObj X.w a xs)) (hx : DqX X.K F xs es) (hn : (xs.map (·.1)).Nodup) : s.heap.DictOfH (nestedKind X.prog X.w) a xs := by
  obtain ⟨⟨o, es', ep, h1, h2, h3, h4⟩, _, _⟩ := I.hok _ _ h
  exact ⟨o, es', ep, h1, h2, h3, h4, dqx_is I sm hx, hn⟩
theorem kd_ok {P : Program} {w : World} {H' : Hp} {h' : Heap} {a : Addr} {xs : List (NestedKey × Addr × Value)} (D : h'.DictOfH (nestedKind P w) a xs) : ObjOk P w H' h' a (kdObj w a xs) := by
  obtain ⟨o, es, ep, h1, h2, h3, h4, _, _⟩ := D
  refine ⟨⟨o, es, ep, h1, h2, h3, h4⟩, ⟨o, h1⟩, fun g1 g2 ⟨o', es', ep', z1, z2, z3, z4⟩ k => ⟨o', es', ep', k _ z1, z2, z3, z4⟩⟩
end
theorem dqx_get {K : PySem.W.Frag} {F : Hp} (k : NestedKey) : ∀ {xs : List (NestedKey × Addr × Value)} {es : List (NestedKey × PyData)}, DqX K F xs es → (atKey xs k = none ∧ kget es k = none) ∨ ∃ b u v e, atKey xs k = some (b, u) ∧ kget es k = some e ∧ RelV v u ∧ Dq K F v e
  | _, _, .nil => .inl ⟨rfl, rfl⟩
  | _, _, .cons (k := k') (b := b) (u := u) (v := v) (e := e) (xs := xs) (es := es) h1 h2 h3 h4 t => by
    by_cases hk : k' = k
    · exact .inr ⟨b, u, v, e, by unfold atKey; rw [List.find?_cons_of_pos (by simpa using hk)]; rfl, by unfold kget; rw [List.find?_cons_of_pos (by simpa using hk)]; rfl, h3, h4⟩
    · have e1 : atKey ((k', b, u) :: xs) k = atKey xs k := by unfold atKey; rw [List.find?_cons_of_neg (by simpa using hk)]
      have e2 : kget ((k', e) :: es) k = kget es k := by unfold kget; rw [List.find?_cons_of_neg (by simpa using hk)]
      rw [e1, e2]
      exact dqx_get k t
theorem dqx_some {K : PySem.W.Frag} {F : Hp} (k : NestedKey) {xs : List (NestedKey × Addr × Value)} {es : List (NestedKey × PyData)} (h : DqX K F xs es) : (atKey xs k).isSome = (kget es k).isSome := by
  rcases dqx_get k h with ⟨e1, e2⟩ | ⟨b, u, v, e, e1, e2, _⟩
  · rw [e1, e2]; rfl
  · rw [e1, e2]; rfl
theorem dqx_map {K : PySem.W.Frag} {F : Hp} {k : NestedKey} {v : V} {u : Value} {e : PyData} (h3 : RelV v u) (h4 : Dq K F v e) : ∀ {xs : List (NestedKey × Addr × Value)} {es : List (NestedKey × PyData)}, DqX K F xs es →
    DqX K F (xs.map (putAt k u)) (es.map fun p => if p.1 = k then (p.1, e) else p)
  | _, _, .nil => .nil
  | _, _, .cons (k := k') g1 g2 g3 g4 t => by
    rw [List.map_cons, List.map_cons]
    unfold putAt
    dsimp only
    by_cases hk : k' = k
    · rw [if_pos hk, if_pos hk]
      exact .cons g1 g2 h3 h4 (dqx_map h3 h4 t)
    · rw [if_neg hk, if_neg hk]
      exact .cons g1 g2 g3 g4 (dqx_map h3 h4 t)
theorem dqx_snoc {K : PySem.W.Frag} {F : Hp} {k : NestedKey} {b : Addr} {v : V} {u : Value} {d e : PyData} (h1 : nk8 d = some k) (h2 : Dq K F (.ref b) d) (h3 : RelV v u) (h4 : Dq K F v e) : ∀ {xs : List (NestedKey × Addr × Value)} {es : List (NestedKey × PyData)}, DqX K F xs es →
    DqX K F (xs ++ [(k, b, u)]) (es ++ [(k, e)])
  | _, _, .nil => .cons h1 h2 h3 h4 .nil
  | _, _, .cons g1 g2 g3 g4 t => .cons g1 g2 g3 g4 (dqx_snoc h1 h2 h3 h4 t)
theorem dqx_put {K : PySem.W.Frag} {F : Hp} {k : NestedKey} {b : Addr} {v : V} {u : Value} {d e : PyData} (h1 : nk8 d = some k) (h2 : Dq K F (.ref b) d) (h3 : RelV v u) (h4 : Dq K F v e) {xs : List (NestedKey × Addr × Value)} {es : List (NestedKey × PyData)} (h : DqX K F xs es) :
    DqX K F (storedH xs k b u) (kput es k e) := by
  unfold storedH kput
  rw [dqx_some k h]
  split
  · exact dqx_map h3 h4 h
  · exact dqx_snoc h1 h2 h3 h4 h
theorem dqx_len {K : PySem.W.Frag} {F : Hp} : ∀ {xs : List (NestedKey × Addr × Value)} {es : List (NestedKey × PyData)}, DqX K F xs es → xs.length = es.length
  | _, _, .nil => rfl
  | _, _, .cons _ _ _ _ t => congrArg Nat.succ (dqx_len t)
/-! ### k in d, k not in d -/
section
variable {X : Cx}
theorem room8 {A : Around} (hu : A.units + 64 < cLine) : (nestedKind X.prog X.w).room A.in1 := by
  show A.in1.units + 8 < cLine
  rw [Around.in1_units]
  omega
end
def mKIn {T : Type} (neg : Bool) (fk : ME T) (i : Nat) : Env → T → Option (Bool × T) := fun ρ t => match fk ρ t with
  | some (.fro d, t1) => match ρ[i]? with
    | some (some (.kd es)) => match nk8 d with
      | some k => some (if neg then !(kget es k).isSome else (kget es k).isSome, t1)
      | none => none
    | _ => none
  | _ => none
section
variable {X : Cx} {Γ : Gm} {a b : Expr} {fk fa fv : ME Γ.T} {pos : Pos}
end
/-! ### {}, {k: v}, d[k] = v -/
section
variable {X : Cx} {k v : Expr} {tk tv : TE} {pos : Pos}
theorem kd_laid {pins : List (Addr × Obj)} {σ : L2.St} {H : Hp} {s : Shared} (I : L2.Inv X pins σ H s) : L2.Inv X pins σ (upd H s.heap.objs.size (kdObj X.w s.heap.objs.size [])) { s with heap := s.heap.push { cls := .type "dict", data := .dict #[] } } :=
  I.laid (a := s.heap.objs.size) (t' := s.toks) (fun _ _ q => Heap.get?_push_of_some _ q) (Nat.le_refl _) (kd_ok (P := X.prog) (Heap.DictOfH.new s.heap))
theorem kd_big {pins : List (Addr × Obj)} {σ : L2.St} {H : Hp} {s : Shared} (I : L2.Inv X pins σ H s) : (s.heap.objs.size == sysModules) = false := (dk_empty (P := X.prog) (w := X.w) (H := H) s.heap I.big).2.1
theorem pe_kdNew0 : PE X (.Dict [] [] pos) (fun σ H Q => ∀ p, H p = none → (p == sysModules) = false → Q (.ref p) (upd H p (kdObj X.w p []))) := ⟨fun pins s σ H Q I h =>
  wpAny_Dict_empty ⟨.ref s.heap.objs.size, _, kd_laid I, rfl, h _ (I.hok.fresh (Nat.le_refl _)) (kd_big I)⟩⟩
end
def unK (ρ : Env) : Env := ρ.map fun x => match x with
  | some (.kd _) => none
  | y => y
theorem unK_get {ρ : Env} {j : Nat} {w : Val} (h : (unK ρ)[j]? = some (some w)) : ρ[j]? = some (some w) ∧ ∀ es, w ≠ .kd es := by
  unfold unK at h
  rw [List.getElem?_map] at h
  cases e : ρ[j]? with
  | none => rw [e] at h; cases h
  | some x =>
    rw [e] at h
    cases x with
    | none => cases h
    | some w' =>
      cases w' with
      | kd es => cases h
      | _ => cases h; exact ⟨rfl, fun es z => by cases z⟩
theorem Rep.kput {Γ : Gm} {F H : Hp} {σ : L2.St} {ρ : Env} {t : Γ.T} {i : Nat} {q : Addr} {es0 es : List (NestedKey × PyData)} {xs : List (NestedKey × Addr × Value)} (R : Rep Γ F H σ ρ t) (hi : ρ[i]? = some (some (.kd es0))) (hq : σ[i]? = some (some (.ref q)))
    (o : OwnT Γ.w Γ.K F (upd H q (kdObj Γ.w q xs)) q es) : Rep Γ F (upd H q (kdObj Γ.w q xs)) σ ((unK ρ).set i (some (.kd es))) t := by
  obtain ⟨a', e1, o1, old, nS⟩ := R.slots i _ hi
  rw [hq] at e1
  cases e1
  have fq := o1.free
  obtain ⟨φ, hφ⟩ := o1.there
  have loc : Γ.In t (upd H q (kdObj Γ.w q xs)) := Γ.loc t H _ (fun b hb => upd_ne fun z : b = q => nS (z ▸ hb)) R.inn
  have back : ∀ {j : Nat} {d : PyData}, ((unK ρ).set i (some (.kd es)))[j]? = some (some (.own d)) → ρ[j]? = some (some (.own d)) := fun {j d} h => by
    rcases get_set h with ⟨_, z⟩ | ⟨_, z⟩
    · cases z
    · exact (unK_get z).1
  refine { ex := fun b u z => by rw [upd_ne (ne_of_none z fq)]; exact R.ex b u z, inn := loc, sF := R.sF, step0 := R.step0, step := fun b u n1 n2 n3 => ?_, len := by rw [List.length_set]; unfold unK; rw [List.length_map]; exact R.len, slots := fun j w e => ?_, sep := fun j k a d e hjk hj hk sj => R.sep j k a d e hjk (back hj) (back hk) sj }
  · obtain ⟨z1, z2⟩ := R.step b u n1 n2 n3
    have hb : b ≠ q := fun z => by subst z; rw [old] at n3; cases n3
    exact ⟨z1, by rw [upd_ne hb]; exact z2⟩
  · rcases get_set e with ⟨rfl, hw⟩ | ⟨hne, e2⟩
    · cases hw
      exact ⟨q, hq, o, old, nS⟩
    · obtain ⟨e3, e4⟩ := unK_get e2
      have s := R.slots j w e3
      cases w with
      | fro d => exact s
      | own d =>
        obtain ⟨u, z1, z2, z3, z4⟩ := s
        have hu : u ≠ q := fun z => by subst z; exact z2.notX hφ
        exact ⟨u, z1, z2.mono (Same.refl F) (fun o h => by rw [upd_ne hu]; exact h) z2.free, z3, z4⟩
      | bor d =>
        obtain ⟨v, z1, z2⟩ := s
        refine ⟨v, z1, ?_⟩
        rcases z2 with z2 | ⟨u, o', e5, z2, z3, z4, z5⟩
        · exact .inl z2
        · have hu : u ≠ q := fun z => by subst z; exact z2.notX hφ
          exact .inr ⟨u, o', e5, z2.mono (Same.refl F) (fun o h => by rw [upd_ne hu]; exact h) z2.free, z3, z4, z5⟩
      | tray _ => exact s
      | kd es' => exact (e4 es' rfl).elim
/-! ### mirrors -/
def mKNew0 {T : Type} : Env → T → Option (Val × T) := fun _ t => some (.kd [], t)
section
variable {X : Cx} {Γ : Gm} {a k v o : Expr} {fk fa fv : ME Γ.T} {pos q2 : Pos}
theorem pe_kNew0 (hK : X.K = Γ.K) (hw : X.w = Γ.w) : PE X (.Dict [] [] pos) (denV Γ mKNew0) := pe_w pe_kdNew0 fun σ H Q => by
  rintro ⟨F, ρ, t, r, t', R, e, q⟩
  cases e
  intro p hp hS
  have x0 : Ext [] F H F (upd H p (kdObj X.w p [])) := Ext.new R.ex hp
  obtain ⟨old, nS⟩ := R.toFin.old hp
  exact q _ F _ (R.ext0 x0) x0.wide (.kd ⟨⟨R.ex.free hp, hS, [], by rw [← hw]; exact upd_same, .nil, by simp⟩, old, nS⟩ .nil)
end
section
variable {T : Type} {ρ : Env} {t : T} {i : Nat} {fk fa fv : ME T} {QB : Bool → T → Prop} {QV : Val → T → Prop} {N : Env → T → Prop} {R : PyData → T → Prop} {B C : Env → T → Prop} {neg : Bool}
theorem v_kNew0 (q : QV (.kd []) t) : Eg (mKNew0 : Env → T → Option (Val × T)) ρ t QV := ⟨_, _, rfl, q⟩
end
/-! ### f() -/
section
variable {X : Cx} {Γ : Gm} {k j : Nat} {x : Str} {st : Stmt} {f : Addr} {fd : FuncData} {ps : List Str} {bs : List Bool} {m : List PyData → Option PyData} {p pos : Pos}
end
end Mi
/-! defs that return a list of their own, which the caller may change. -/
namespace Mi
open PySem L2
section
variable {X : Cx} {Γ : Gm} {st : Stmt} {rest : List Stmt} {sa sb : MS Γ.T} {i : Nat} {a : Expr} {pos : Pos}
end
section
variable {Γ : Gm} {X : Cx} {a : Expr} {es : List Expr} {pos p : Pos} {x : Str} {st : Stmt} {j k : Nat} {f : Addr} {fd : FuncData} {ps : List Str} {bs : List Bool} {m : List PyData → Option PyData} {ga : Env → Γ.T → Option (List Rv × Γ.T)}
end
/-! ### what must hold -/
section
variable {T : Type} {ρ : Env} {t : T} {bs : List Bool} {m : List PyData → Option PyData} {fs : Env → T → Option (List Rv × T)} {Q : PyData → T → Prop}
end
end Mi
/-! Defs that raise an own error without a field; a try that catches it. -/
namespace Mi
open PySem L2

/-- a statement's end: a flow, or an error -/
inductive Fx where
  | fl (r : Fl) | ex (ρ : Env)
abbrev MX (T : Type) := Env → T → Option (Fx × T)
section
variable {Γ : Gm} {X : Cx} {W : WX} {C : Addr} {st : Stmt} {rest sa' sb' : List Stmt} {c : Expr} {pos : Pos} {sa sb : MX Γ.T}
end
/-! ### expressions whose call may raise -/
section
variable {Γ : Gm} {X : Cx} {W : WX} {C : Addr} {a b c : Expr} {es : List Expr} {pos p : Pos} {x : Str} {k : Nat} {f : Addr} {fd : FuncData} {ps ks : List Str} {bs : List Bool} {m : List PyData → Option (Option PyData)} {ga : Env → Γ.T → Option (List Rv × Γ.T)} {kws : List Keyword}
end
end Mi
/-! Defs that raise, what is known of them; a try that catches. -/
namespace Mi
open PySem L2
structure KnownX (P : Program) (w : World) (K : PySem.W.Frag) (mg : Str → Option Value) (base : Heap) (k : Nat) (x : Str) (st : Stmt) (f : Addr) (fd : FuncData) (ps : List Str) (sp : Sp) : Prop where
  m : mg x = some (.ref f)
  F : Fun K x x st f fd
  b : Binds K fd ps []
  G : FnG P w K mg base (L2.CX P w) k f fd ps sp
section
variable {Γ : Gm} {X : Cx} {W : WX} {C : Addr} {a b c : Expr} {es : List Expr} {pos p : Pos} {x : Str} {st : Stmt} {k j : Nat} {f : Addr} {fd : FuncData} {ps ks : List Str} {bs : List Bool} {m : List PyData → Option (Option PyData)} {ga : Env → Γ.T → Option (List Rv × Γ.T)} {kws : List Keyword}
end

/-! ### the suite: the error stands in a slot as 'tray 0' -/
section
variable {w : World} {K : PySem.W.Frag} {F0 H0 F H : Hp} {a : Addr} {σ : L2.St} {ρ : Env} {i : Nat}
end
section
variable {w : World} {F0 H0 : Hp} {X : Cx} {x n : Str} {c : Value} {i : Nat} {body suite : List Stmt} {b₀ : Stmt} {np pos pos' : Pos} {C : Addr} {fb : MX Unit} {fh : MS Unit}
end
end Mi
namespace Mi
open PySem L2
/-- what the written part says of an own error class (over ValueError, no __init__) -/
structure Err0 (K : PySem.W.Frag) (mg : Str → Option Value) (x : Str) (C : Addr) : Prop where
  g : mg x = some (.ref C)
  q : PySem.W.excIn K C [.type "ValueError", .type "Exception", .type "BaseException", .type "object"] "ValueError.__new__" = true
  k : PySem.W.keepIn K (.ref C) = true
  s : PySem.W.subIn K (.ref C) (.type "BaseException") = some true
  t : PySem.W.typeIn K (.ref C) = some (.type "type")
  h : PySem.W.hasDictIn K C = true
  e : PySem.W.subIn K (.ref C) (.ref C) = some true
  ga : PySem.W.findIn K (.ref C) "__getattribute__" = some (some (.builtin "BaseException.__getattribute__"))
  gt : PySem.W.findIn K (.ref C) "__getattr__" = some none
  gc : PySem.W.findIn K (.ref C) "__class__" = some (some (.builtin "object.__class__"))
  gs : PySem.W.specialIn K (.builtin "object.__class__") "__get__" = some (some (.builtin "getset_descriptor.__get__"))
  tk : PySem.W.takesIn K (.builtin "object.__class__") = some true
  mr : PySem.W.mroIn K C (.type "object") = some true
/-- a class that stands above it, or not -/
structure ErrI (K : PySem.W.Frag) (mg : Str → Option Value) (C : Addr) (x : Str) (L : Addr) (b : Bool) : Prop where
  g : mg x = some (.ref L)
  i : PySem.W.kitOne K (.ref C) (.ref L) = some b
end Mi
namespace Mi
open PySem L2
end Mi
/-! What must hold behind the mirror of a def that may raise. -/
namespace Mi
open PySem L2
section
variable {T : Type} {m m' : MX T} {c : Env → T → Option (Bool × T)} {ρ : Env} {t : T} {N : Env → T → Prop} {R : PyData → T → Prop} {E : Prop}
end
section
variable {T : Type} {ρ : Env} {t : T} {c : Env → T → Option (Bool × T)} {f g : Env → T → Option (Option Rv × T)} {fs : Env → T → Option (List Rv × T)} {Q : Option Rv → T → Prop}
end
end Mi
/-! Defs that raise an own error, with one field or none. -/
namespace Mi.FX
open PySem L2
/-- the error's field -/
abbrev Er0 := Option (Str × PyData)
/-- a statement's end: a flow, or an error -/
inductive Fx where
  | fl (r : Fl) | ex (ρ : Env) (x : Er0)
abbrev MX (T : Type) := Env → T → Option (Fx × T)
section
variable {Γ : Gm} {X : Cx} {W : WX} {C : Addr} {st : Stmt} {rest sa' sb' : List Stmt} {c : Expr} {pos : Pos} {sa sb : MX Γ.T}
end
/-! ### expressions whose call may raise -/
section
variable {Γ : Gm} {X : Cx} {W : WX} {C : Addr} {a b c : Expr} {es : List Expr} {pos p : Pos} {x : Str} {k : Nat} {f : Addr} {fd : FuncData} {ps ks : List Str} {bs : List Bool} {m : List PyData → Option (Sum Er0 PyData)} {ga : Env → Γ.T → Option (List Rv × Γ.T)} {kws : List Keyword}
end
end Mi.FX
/-! Errors with one field: made, raised, known, caught. -/
namespace Mi.FX
open PySem L2
/-- what C's __init__(self, n): self.f = n keeps -/
def spInit (K : PySem.W.Frag) (C : Addr) (f : Str) : Sp := fun vs H Q _ => ∃ a y, vs = [.ref a, y] ∧ OexC K C ∧ PySem.W.findIn K (.ref C) f = some none ∧ H a = some (exo a C none) ∧
  ∀ dx, H dx = none → dx ≠ a → Q .non (upd (upd H dx (exd dx [(f, y)])) a (exo a C (some dx)))
/-- what is known of an own error class with a field -/
structure Err1 (P : Program) (w : World) (K : PySem.W.Frag) (mg : Str → Option Value) (base : Heap) (x : Str) (C fI : Addr) (fd : FuncData) (f n : Str) : Prop where
  g : mg x = some (.ref C)
  T : OexC K C
  iC : PySem.W.findIn K (.ref C) "__init__" = some (some (.ref fI))
  tI : PySem.W.typeIn K (.ref fI) = some (.type "function")
  no : PySem.W.findIn K (.ref C) f = some none
  F1 : FnOk P w K mg base CX0 1 fI fd ["self", n] (spInit K C f)
  b : Binds K fd ["self", n] []
  h : PySem.W.hasDictIn K C = true
  e : PySem.W.subIn K (.ref C) (.ref C) = some true
  ga : PySem.W.findIn K (.ref C) "__getattribute__" = some (some (.builtin "BaseException.__getattribute__"))
  gt : PySem.W.findIn K (.ref C) "__getattr__" = some none
section
variable {P : Program} {w : World} {K : PySem.W.Frag} {mg : Str → Option Value} {base : Heap} {x f n : Str} {C fI : Addr} {fd : FuncData}
end
/-! ### what is known of a def that raises -/
structure KnownX (P : Program) (w : World) (K : PySem.W.Frag) (mg : Str → Option Value) (base : Heap) (k : Nat) (x : Str) (st : Stmt) (f : Addr) (fd : FuncData) (ps : List Str) (sp : Sp) : Prop where
  m : mg x = some (.ref f)
  F : Fun K x x st f fd
  b : Binds K fd ps []
  G : FnG P w K mg base (L2.CX P w) k f fd ps sp
end Mi.FX
/-! Calls of defs that raise errors with a field; a try that catches; what the suite reads. -/
namespace Mi.FX
open PySem L2
section
variable {Γ : Gm} {X : Cx} {W : WX} {C : Addr} {a b c : Expr} {es : List Expr} {pos p : Pos} {x : Str} {st : Stmt} {k j : Nat} {f : Addr} {fd : FuncData} {ps ks : List Str} {bs : List Bool} {m : List PyData → Option (Sum Er0 PyData)} {ga : Env → Γ.T → Option (List Rv × Γ.T)} {kws : List Keyword}
end

/-! ### the suite: the error stands in a slot as 'tray 0'; its dict, where it has a field, at an address that is watched -/
section
variable {w : World} {K : PySem.W.Frag} {F0 H0 F H : Hp} {a : Addr} {σ : L2.St} {ρ : Env} {i : Nat} {x : Er0} {dd : Option Addr}
end
section
variable {w : World} {F0 H0 : Hp} {X : Cx} {x n : Str} {c : Value} {i : Nat} {body suite : List Stmt} {b₀ : Stmt} {np pos pos' : Pos} {C : Addr} {fb : MX Unit} {fh : Er0 → MS Unit}
end
/-! ### what the suite reads of its error -/
end Mi.FX
/-! What must hold behind the mirror of a def that may raise an error with a field; isinstance of it. -/
namespace Mi.FX
open PySem L2
section
variable {T : Type} {m m' : MX T} {c : Env → T → Option (Bool × T)} {ρ : Env} {t : T} {N : Env → T → Prop} {R : PyData → T → Prop} {E : Er0 → Prop}
end
section
variable {T : Type} {ρ : Env} {t : T} {c : Env → T → Option (Bool × T)} {f g : Env → T → Option (Sum Er0 Rv × T)} {fs : Env → T → Option (List Rv × T)} {Q : Sum Er0 Rv → T → Prop}
end
/-! ### isinstance(e, L), e the error that the suite holds, with its dict -/
/-- what isinstance asks of the class, beside Err1 -/
structure ErrC (K : PySem.W.Frag) (C : Addr) : Prop where
  gc : PySem.W.findIn K (.ref C) "__class__" = some (some (.builtin "object.__class__"))
  gs : PySem.W.specialIn K (.builtin "object.__class__") "__get__" = some (some (.builtin "getset_descriptor.__get__"))
  tk : PySem.W.takesIn K (.builtin "object.__class__") = some true
  mr : PySem.W.mroIn K C (.type "object") = some true
end Mi.FX
/-! d.setdefault(k, x), d[k], len(d): dicts of one's own whose keys are tuples. -/
namespace Mi
open PySem L2 PySem.Spec PyProof.Rows
/-- data, and the dict in slot j behind it -/
def denK (Γ : Gm) (j : Nat) (f : Env → Γ.T → Option (PyData × List (NestedKey × PyData) × Γ.T)) : TE := fun σ H Q => ∃ F ρ t d es t', Rep Γ F H σ ρ t ∧ f ρ t = some (d, es, t') ∧
  ∀ v F' H', Rep Γ F' H' σ ((unK ρ).set j (some (.kd es))) t' → Same F F' → Dq Γ.K F' v d → Q v H'
def mKSetd {T : Type} (j : Nat) (fk fv : ME T) : Env → T → Option (PyData × List (NestedKey × PyData) × T) := fun ρ t => match fk ρ t with
  | some (.fro d, t1) => match fv ρ t1 with
    | some (.fro e, t2) => match ρ[j]? with
      | some (some (.kd es)) => match nk8 d with
        | some k => if es.length ≤ sizeLine then (match kget es k with
            | some x => some (x, es, t2)
            | none => some (e, es ++ [(k, e)], t2)) else none
        | none => none
      | _ => none
    | _ => none
  | _ => none
def tKSetd (X : Cx) (td ty tx : TE) : TE := fun σ H Q => td σ H fun x H1 => ∃ a F1 es1, x = .ref a ∧ Same F1 H1 ∧ OwnT X.w X.K F1 H1 a es1 ∧ ty σ H1 fun y H2 => tx σ H2 fun z H3 => ∃ F d k es b, Same F H3 ∧ y = .ref b ∧ Dq X.K F y d ∧ nk8 d = some k ∧ OwnT X.w X.K F H3 a es ∧ es.length ≤ sizeLine ∧
  (∀ e, kget es k = some e → ∀ v, Dq X.K F v e → Q v H3) ∧
  (kget es k = none → ∀ xs', (∀ e, Dq X.K F z e → OwnT X.w X.K F (upd H3 a (kdObj X.w a xs')) a (es ++ [(k, e)])) → Q z (upd H3 a (kdObj X.w a xs')))
section
variable {X : Cx} {o k v : Expr} {td ty tx : TE} {apos cpos : Pos}
theorem pe_tKSetd (hu : X.A.units + 64 < cLine) (ho : PE X o td) (hk : PE X k ty) (hv : PE X v tx) (m : M2 X o "setdefault" apos k v cpos) : PE X (.Call (.Attribute o "setdefault" apos) [k, v] [] cpos) (tKSetd X td ty tx) := by
  refine ⟨fun pins s σ H Q I h => ?_⟩
  refine wpAny_Call_method m.base m.few m.line PySem.F.plainAttrs_dict PySem.F.slot_dict_setdefault PySem.F.type_dict_setdefault (thn (ho.run pins s σ H _ I h) fun u s1 ⟨x, H1, I1, rx, a, F1, es1, ex, sm1, ow1, q1⟩ => ?_)
  subst ex
  obtain rfl : u = Value.ref a := rx
  obtain ⟨_, hS, xs1, hx1, hq1, hn1⟩ := ow1
  have hD1 := kd_dict I1 sm1 hx1 hq1 hn1
  obtain ⟨oo, _, _, z1, z2, _⟩ := id hD1
  refine ⟨hD1.typeIs, fun b hb => by cases hb; exact ⟨oo, z1, z2.2.1⟩, ?_⟩
  rw [m.trees]
  refine Calls.callWith_builtin rfl (Calls.evalArgs_plain (Calls.spliced_cons (thn (hk.run pins s1 σ H1 _ I1 q1) fun iv s2 ⟨y, H2, I2, ry, q2⟩ =>
    Calls.spliced_cons (thn (hv.run pins s2 σ H2 _ I2 q2) fun fv s3 ⟨z, H3, I3, rz, F, d, kk, es, b, sm, ey, dy, hkk, ow, hz, q3, q4⟩ => Calls.spliced_nil ?_))))
  subst ey
  obtain rfl : iv = Value.ref b := ry
  obtain ⟨fa, _, xs, hx, hq, hn⟩ := ow
  have hD := kd_dict I3 sm hx hq hn
  refine call_setdefault_heap (room8 hu) (key_is I3 sm hkk dy) hS hD (fun p hp => ?_) (fun hno h' hm hs => ?_) (by rw [dqx_len hq]; exact hz)
  · rcases dqx_get kk hq with ⟨e1, _⟩ | ⟨b', u', v', e', e1, e2, rv, de⟩
    · rw [e1] at hp; cases hp
    · rw [e1] at hp; cases hp
      exact ⟨v', H3, I3.tok _, rv, q3 e' e2 v' de⟩
  · have hg : kget es kk = none := by
      rcases dqx_get kk hq with ⟨_, e2⟩ | ⟨b', u', v', e', e1, _, _, _⟩
      · exact e2
      · rw [e1] at hno; cases hno
    have he : ∃ q, h'.get? a = some q := by
      obtain ⟨o, _, _, h1, _⟩ := id hm
      exact ⟨o, h1⟩
    obtain ⟨_, _, _, _, _, _, _, _, hn'⟩ := id hm
    refine ⟨z, _, d_write I3 (by rw [hx]; exact True.intro) hs he (kd_ok (P := X.prog) hm), rz, q4 hg _ fun e de => ⟨fa, hS, _, upd_same, ?_, hn'⟩⟩
    have hp := dqx_put hkk dy rz de hq
    unfold kput at hp
    rw [hg] at hp
    exact hp
end
section
variable {Γ : Gm} {F H : Hp} {σ : L2.St} {ρ : Env} {t : Γ.T}
theorem Rep.unK {i : Nat} {es : List (NestedKey × PyData)} (R : Rep Γ F H σ ρ t) (hi : ρ[i]? = some (some (.kd es))) : Rep Γ F H σ ((unK ρ).set i (some (.kd es))) t := by
  have back : ∀ {j : Nat} {w : Val}, ((Mi.unK ρ).set i (some (.kd es)))[j]? = some (some w) → ρ[j]? = some (some w) := fun {j w} h => by
    rcases get_set h with ⟨rfl, z⟩ | ⟨_, z⟩
    · rw [hi, z]
    · exact (unK_get z).1
  exact { ex := R.ex, inn := R.inn, sF := R.sF, step0 := R.step0, step := R.step, len := by rw [List.length_set]; unfold Mi.unK; rw [List.length_map]; exact R.len, slots := fun j w e => R.slots j w (back e), sep := fun j k a d e hjk hj hk sj => R.sep j k a d e hjk (back hj) (back hk) sj }
end
section
variable {X : Cx} {Γ : Gm} {o k v a b : Expr} {fk fv fb : ME Γ.T} {apos cpos pos p2 q : Pos} {i j : Nat} {f : Env → Γ.T → Option (PyData × List (NestedKey × PyData) × Γ.T)}
theorem pe_kSetd (hu : X.A.units + 64 < cLine) (hK : X.K = Γ.K) (hw : X.w = Γ.w) (ho : PE X o (tVar j)) (hk : PE X k (den Γ fk)) (hv : PE X v (den Γ fv)) (m : M2 X o "setdefault" apos k v cpos) : PE X (.Call (.Attribute o "setdefault" apos) [k, v] [] cpos) (denK Γ j (mKSetd j fk fv)) :=
  pe_w (pe_tKSetd hu ho hk hv m) fun σ H Q => by
    rintro ⟨F, ρ, t, d, es', t', R, e, q⟩
    unfold mKSetd at e
    split at e
    · rename_i d0 t1 e1
      split at e
      · rename_i x0 t2 e2
        split at e
        · rename_i es e3
          split at e
          · rename_i kk e4
            split at e
            · rename_i hz
              obtain ⟨p, g1, o1, _, _⟩ := R.slots j _ e3
              refine ⟨_, g1, p, F, es, rfl, R.ex, by rw [hK, hw]; exact o1, F, ρ, t, _, _, R, e1, fun y F1 H1 R1 x1 k1 => ⟨F1, ρ, _, _, _, R1, e2, fun z F2 H2 R2 x2 k2 => ?_⟩⟩
              have k1 : Dq Γ.K F1 y d0 := k1
              have k2 : Dq Γ.K F2 z x0 := k2
              obtain ⟨b, rfl⟩ := key_ref e4 k1
              obtain ⟨p2, g2, o2, _, _⟩ := R2.slots j _ e3
              rw [g1] at g2
              cases g2
              have s02 : Same F F2 := x1.f.trans x2.f
              refine ⟨F2, d0, kk, es, b, R2.ex, rfl, by rw [hK]; exact k1.mono x2.f, e4, by rw [hK, hw]; exact o2, hz, fun x hx v dv => ?_, fun hn xs' hxs => ?_⟩
              · rw [hx] at e
                cases e
                rw [hK] at dv
                exact q v F2 H2 (R2.unK e3) s02 dv
              · have ox := hxs x0 (by rw [hK]; exact k2)
                rw [hK, hw] at ox
                rw [hn] at e
                cases e
                rw [hw]
                exact q z F2 _ (R2.kput e3 g1 ox) s02 k2
            · cases e
          · cases e
        · cases e
      · cases e
    · cases e
/-- target = d.setdefault(..) -/
def mAsgK {T : Type} (j : Nat) (f : Env → T → Option (PyData × List (NestedKey × PyData) × T)) (g : PyData → Env → Option Env) : MS T := fun ρ t => match f ρ t with
  | some (d, es, t') => match g d ((unK ρ).set j (some (.kd es))) with
    | some ρ' => some (.nx ρ', t')
    | none => none
  | none => none
/-- xs.append(d.setdefault(..)) -/
def mAppK {T : Type} (i j : Nat) (f : Env → T → Option (PyData × List (NestedKey × PyData) × T)) : MS T := fun ρ t => match f ρ t with
  | some (d, es, t') => match ((unK ρ).set j (some (.kd es)))[i]? with
    | some (some (.own (.list ds))) => if ds.length < sizeLine then some (.nx (((unK ρ).set j (some (.kd es))).set i (some (.own (.list (ds ++ [d]))))), t') else none
    | _ => none
  | none => none
theorem own_slot {F H : Hp} {σ : L2.St} {ρ : Env} {t : Γ.T} {ds : List PyData} {es : List (NestedKey × PyData)} (h : ((unK ρ).set j (some (.kd es)))[i]? = some (some (.own (.list ds)))) : ρ[i]? = some (some (.own (.list ds))) := by
  rcases get_set h with ⟨_, z⟩ | ⟨_, z⟩
  · cases z
  · exact (unK_get z).1
theorem ps_appK (ho : PE X o (tVar i)) (ha : PE X a (denK Γ j f)) (hs1 : starEach [a] X.env = (false, eval a X.env) :: starEach [] X.env := by rfl) (hbase : attributeBase o "append" X.env (eval o X.env) = eval o X.env := by rfl)
    (hfew : ((backTo cpos (starEach [a] X.env)).all (fun x => !x.1) && (backToKw cpos (keywordEach [] X.env)).all (fun x => x.1.isSome) && decide ([a].length + ([] : List Keyword).length + (if ([] : List Keyword).isEmpty then 0 else 1) < 30)) = true := by rfl)
    (hline : (apos.endLine == cpos.line) = true := by rfl) (hplain : (backTo cpos (starEach [] X.env)).any (·.1) = false := by rfl)
    (hs : swapsWith (.Call (.Attribute o "append" apos) [a] [] cpos) none pos.line X.env = pure false := by rfl) : PS X (.Expr (.Call (.Attribute o "append" apos) [a] [] cpos) pos) (denS Γ (mAppK i j f)) := by
  refine ps_w (ps_expr (pe_bm PySem.F.plainAttrs_list PySem.F.slot_list_append PySem.F.type_list_append mt_append ho (pa_cons ha pa_nil hs1) hbase hfew hline hs1 hplain) hs) fun D σ H => ?_
  rintro ⟨F, ρ, t, r, t', R, e, q⟩
  unfold mAppK at e
  split at e
  · rename_i d es t1 e1
    split at e
    · rename_i ds e2
      split at e
      · rename_i hz
        cases e
        have e0 : ρ[i]? = some (some (.own (.list ds))) := own_slot (Γ := Γ) (F := F) (H := H) (σ := σ) (t := t) e2
        obtain ⟨p1, h1, ⟨h2, ws, h3, h4⟩, old, nS⟩ := R.slots i _ e0
        refine ⟨_, h1, .inl ⟨rfl, ws, .of h3⟩, F, ρ, t, _, _, _, R, e1, fun v F1 H1 R1 s1 k1 => ?_⟩
        obtain ⟨p2, g1, ⟨g2, ws2, g3, g4⟩, _, _⟩ := R1.slots i _ e2
        rw [h1] at g1
        cases g1
        refine ⟨p1, ws2, v, rfl, rfl, g3, by rw [g4.length]; exact hz, ?_⟩
        exact q σ F1 _ (R1.turn e2 h1 ⟨g2, _, upd_same, g4.snoc k1⟩) s1
      · cases e
    · cases e
  · cases e
end
end Mi
/-! d[k], len(d) of such dicts; what must hold. -/
namespace Mi
open PySem L2 PySem.Spec PyProof.Rows
def rLenK (X : Cx) : List V → Hp → VK → Prop := fun xs H Q => ∃ a F es, xs = [.ref a] ∧ Same F H ∧ OwnT X.w X.K F H a es ∧ es.length ≤ sizeLine ∧ Q (.int ((es.length : Nat) : Int)) H
section
variable {X : Cx}
theorem cr_lenK : CallR X (.builtin "len") (rLenK X) := by
  intro pins s σ H xs us Q I r h
  obtain ⟨a, F, es, rfl, sm, ⟨fa, hS, ys, hx, hq, hn⟩, hz, q⟩ := h
  obtain ⟨u, rfl, rx⟩ := vals1 r
  obtain rfl : u = .ref a := rx
  have hD := kd_dict I sm hx hq hn
  have hl := dqx_len hq
  refine call_len_dictH hS hD (by rw [hl]; rw [sizeLine_eq] at hz; omega) ?_
  rw [hl]
  exact ⟨.int ((es.length : Nat) : Int), H, I.tok _, ⟨_, rfl⟩, q⟩
end
def mKGet {T : Type} (j : Nat) (fk : ME T) : ME T := fun ρ t => match fk ρ t with
  | some (.fro d, t1) => match ρ[j]? with
    | some (some (.kd es)) => match nk8 d with
      | some k => match kget es k with
        | some e => some (.fro e, t1)
        | none => none
      | none => none
    | _ => none
  | _ => none
def mKLen {T : Type} (j : Nat) : ME T := fun ρ t => match ρ[j]? with
  | some (some (.kd es)) => if es.length ≤ sizeLine then some (.fro (.int ((es.length : Nat) : Int)), t) else none
  | _ => none
section
variable {X : Cx} {Γ : Gm} {o k : Expr} {fk : ME Γ.T} {p pos : Pos} {j : Nat}
theorem pe_kLen (hK : X.K = Γ.K) (hw : X.w = Γ.w) (hg : Gl X "len") (hm : X.mg "len" = none) (ho : PE X o (tVar j)) (he : starEach [o] X.env = (false, eval o X.env) :: starEach [] X.env := by rfl) (hpl : (backTo pos (starEach [] X.env)).any (·.1) = false := by rfl) : PE X (.Call (.Name "len" p) [o] [] pos) (den Γ (mKLen j)) :=
  pe_w (pe_callB cr_lenK hg hm boot_len (pa_cons ho pa_nil he) (by decide) (by decide) he hpl) fun σ H Q => by
    rintro ⟨F, ρ, t, r, t', R, e, q⟩
    unfold mKLen at e
    split at e
    · rename_i es e2
      split at e
      · rename_i hz
        cases e
        obtain ⟨a, g1, o1, _, _⟩ := R.slots j _ e2
        exact ⟨_, g1, a, F, es, rfl, R.ex, by rw [hK, hw]; exact o1, hz, q _ F H R (Ext.refl R.ex) (.int _)⟩
      · cases e
    · cases e
end
/-! ### what must hold -/
def EK {T : Type} (f : Env → T → Option (PyData × List (NestedKey × PyData) × T)) (ρ : Env) (t : T) (Q : PyData → List (NestedKey × PyData) → T → Prop) : Prop := ∃ d es t', f ρ t = some (d, es, t') ∧ Q d es t'
section
variable {T : Type} {ρ : Env} {t : T} {i j : Nat} {fk fv fb : ME T} {QF : Rv → T → Prop} {N : Env → T → Prop} {R : PyData → T → Prop} {B C : Env → T → Prop} {f : Env → T → Option (PyData × List (NestedKey × PyData) × T)} {QK : PyData → List (NestedKey × PyData) → T → Prop} {Q : PyData → T → Prop}
theorem f_kLen (h : ∃ es, ρ[j]? = some (some (.kd es)) ∧ es.length ≤ sizeLine ∧ Q (.int ((es.length : Nat) : Int)) t) : Ef (mKLen j) ρ t Q := by
  obtain ⟨es, e1, hz, q⟩ := h
  refine ⟨_, t, ?_, q⟩
  unfold mKLen
  rw [e1]
  dsimp only
  rw [if_pos hz]
theorem k_setd (h : Ef fk ρ t fun d t1 => Ef fv ρ t1 fun e t2 => ∃ es k, ρ[j]? = some (some (.kd es)) ∧ nk8 d = some k ∧ es.length ≤ sizeLine ∧ (∀ x, kget es k = some x → QK x es t2) ∧ (kget es k = none → QK e (es ++ [(k, e)]) t2)) : EK (mKSetd j fk fv) ρ t QK := by
  obtain ⟨d, t1, e, x, t2, e2, es, k, e3, e4, hz, q1, q2⟩ := h
  cases hg : kget es k with
  | some y =>
    refine ⟨y, es, t2, ?_, q1 y hg⟩
    unfold mKSetd
    rw [e]
    dsimp only
    rw [e2]
    dsimp only
    rw [e3]
    dsimp only
    rw [e4]
    dsimp only
    rw [if_pos hz, hg]
  | none =>
    refine ⟨x, _, t2, ?_, q2 hg⟩
    unfold mKSetd
    rw [e]
    dsimp only
    rw [e2]
    dsimp only
    rw [e3]
    dsimp only
    rw [e4]
    dsimp only
    rw [if_pos hz, hg]
theorem s_appK (h : EK f ρ t fun d es t1 => ∃ ds, ((unK ρ).set j (some (.kd es)))[i]? = some (some (.own (.list ds))) ∧ ds.length < sizeLine ∧ N (((unK ρ).set j (some (.kd es))).set i (some (.own (.list (ds ++ [d]))))) t1) : Es (mAppK i j f) ρ t N R B C := by
  obtain ⟨d, es, t1, e, ds, e2, hz, q⟩ := h
  refine ⟨.nx _, t1, ?_, q⟩
  unfold mAppK
  rw [e]
  dsimp only
  rw [e2]
  dsimp only
  rw [if_pos hz]
end
end Mi
/-! zip of a tuple and a list. -/
namespace Mi.TL
open PySem PySem.Spec PyProof.Rows L2 PySem.Calls
open PySem.W (neN ltN)
/-- a list at a, n long, beside a tuple at b, m long -/
def ItzX (K : PySem.W.Frag) (a b : Addr) (n m : Nat) : It where
  go := fun i H => ∃ (xs ys : List V) (x y : V), (SqT K H a xs ∧ xs.length = n) ∧ (SqL K H b ys ∧ ys.length = m) ∧ xs[i]? = some x ∧ ys[i]? = some y
  yld := fun i H v H' => ∃ T x y, v = .ref T ∧ H T = none ∧ H' = upd H T (.tup [x, y]) ∧
    (∀ xs, SqT K H a xs → xs[i]? = some x) ∧ ∀ ys, SqL K H b ys → ys[i]? = some y
  stop := fun i H => ∃ xs ys : List V, (SqT K H a xs ∧ xs.length = n) ∧ (SqL K H b ys ∧ ys.length = m) ∧ (n ≤ i ∨ m ≤ i)
structure ZSt (I a b n m i : Nat) (h : Heap) : Prop where
  zip : IsZip h (I + 4) (I + 2) (I + 3) .none
  ti : IsPair h (I + 2) (.ref I) (.ref (I + 1))
  to : ∃ x y, IsPair h (I + 3) x y
  one : h.IsTupleIter I a i
  two : h.IsListIter (I + 1) b i
  le1 : i ≤ n
  le2 : i ≤ m
theorem zsep {I a b : Nat} (ha : a < I) (hb : b < I) : ZipSep2 (I + 4) (I + 2) (I + 3) I (I + 1) [I, a] [I + 1, b] := by
  have ne : ∀ {x y : Nat}, (x < y ∨ y < x) → ¬ ((x : Addr) = (y : Addr)) := fun {x y} h e => by
    have e : x = y := e
    omega
  have no : ∀ {c x y : Addr}, ¬ c = x → ¬ c = y → c ∉ [x, y] := fun h1 h2 m => by
    rcases List.mem_cons.mp m with e | m
    · exact h1 e
    · exact h2 (List.mem_singleton.mp m)
  exact {
    TIz := ne (by omega), TOz := ne (by omega), TITO := ne (by omega), TIi1 := ne (by omega), TIi2 := ne (by omega)
    mem1 := List.mem_cons_self .., mem2 := List.mem_cons_self ..
    zf1 := no (ne (by omega)) (ne (by omega)), Tf1 := no (ne (by omega)) (ne (by omega))
    zf2 := no (ne (by omega)) (ne (by omega)), Tf2 := no (ne (by omega)) (ne (by omega))
    sep1_2 := no (ne (by omega)) (ne (by omega)), sep2_1 := no (ne (by omega)) (ne (by omega)) }
theorem fp5 {I c : Nat} (h : c ∈ [I + 4, I + 2, I + 3, I, I + 1]) : c = I + 4 ∨ c = I + 2 ∨ c = I + 3 ∨ c = I ∨ c = I + 1 := by simpa using h
theorem turn_zipX {P : Program} {w : World} {K : PySem.W.Frag} {elts : List Expr} {kk : Nat} {tpos : Pos} {I a b n m : Nat} (ha : a < I) (hb : b < I) :
    Turn P w K (.Tuple elts kk tpos) (ItzX K a b n m) [I + 4, I + 2, I + 3, I, I + 1] (I + 4) (ZSt I a b n m) where
  mem := List.mem_cons_self ..
  obj := fun i h st c hc => by
    obtain ⟨o1, e1, _, d1⟩ := st.one
    obtain ⟨o2, e2, _, d2⟩ := st.two
    obtain ⟨x, y, e3⟩ := st.to
    rcases fp5 hc with rfl | rfl | rfl | rfl | rfl
    · exact ⟨_, st.zip, fun v z => nomatch z⟩
    · exact ⟨_, st.ti, fun v z => nomatch z⟩
    · exact ⟨_, e3, fun v z => nomatch z⟩
    · exact ⟨o1, e1, fun v z => by rw [d1] at z; cases z⟩
    · exact ⟨o2, e2, fun v z => by rw [d2] at z; cases z⟩
  keep := fun i h h' st k => by
    obtain ⟨x, y, e3⟩ := st.to
    exact ⟨k _ (by simp) _ st.zip, k _ (by simp) _ st.ti, ⟨x, y, k _ (by simp) _ e3⟩, st.one.at fun o z => k _ (by simp) o z, st.two.at fun o z => k _ (by simp) o z, st.le1, st.le2⟩
  item := by
    intro X hP hw hK hc i pins s σ H E Iv hf st hg
    subst hP hw hK
    obtain ⟨x0, y0, hTO⟩ := st.to
    obtain ⟨xs, ys, x, y, ⟨hqx, hxl⟩, ⟨hqy, hyl⟩, hx, hy⟩ := hg
    obtain ⟨its, rv, p, _⟩ := Iv.tuple hqx
    obtain ⟨its2, rv2, p2, _⟩ := Iv.list hqy
    obtain ⟨u, hu, ru⟩ := rv.get hx
    obtain ⟨u2, hu2, ru2⟩ := rv2.get hy
    have hh : X.A.in1.handled = none := Iv.ok.hd hc
    have D1 := Draws.tuple (prog := X.prog) (w := X.w) hh I a (Nat.ne_of_lt ha) its.toArray
    have D2 := Draws.list (prog := X.prog) (w := X.w) hh (I + 1) b (Nat.ne_of_lt (Nat.lt_succ_of_lt hb)) its2.toArray
    have l1 : i < its.toArray.size := by
      have := (List.getElem?_eq_some_iff.mp hu).1
      simpa using this
    have l2 : i < its2.toArray.size := by
      have := (List.getElem?_eq_some_iff.mp hu2).1
      simpa using this
    have hzl : I + 4 < s.heap.objs.size := Heap.lt_size st.zip
    refine wpAny_pyNext_zipD2_item (zsep ha hb) D1 D2 st.zip st.ti hTO ⟨st.one, p⟩ ⟨st.two, p2.isList⟩ l1 l2 fun v1 v2 h' tk q1 q2 z' to' s1 s2 hT hsz hk => ?_
    have e1 : u = v1 := by
      have q1 : its.toArray[i]? = some v1 := q1
      rw [show its.toArray[i]? = its[i]? by simp, hu] at q1
      exact Option.some.inj q1
    have e2 : u2 = v2 := by
      have q2 : its2.toArray[i]? = some v2 := q2
      rw [show its2.toArray[i]? = its2[i]? by simp, hu2] at q2
      exact Option.some.inj q2
    subst e1
    subst e2
    refine ⟨_, rfl, ?_⟩
    refine wpAny_letOwnedTupleGo_zip (s := { s with heap := h', toks := tk }) z' fun h'' z'' sb => ?_
    have hT2 : IsPair h'' s.heap.objs.size u u2 := (sb.2 _ (Nat.ne_of_gt hzl)).trans hT
    have new : ObjOk X.prog X.w (upd H s.heap.objs.size (.tup [x, y])) h'' s.heap.objs.size (.tup [x, y]) :=
      ⟨show 2 ≤ sizeLine by decide, [u, u2], .cons ru (.cons ru2 .nil), ⟨_, hT2, rfl, _, rfl⟩⟩
    have I1 : Inv X pins σ (upd H s.heap.objs.size (.tup [x, y])) { s with heap := h'', toks := tk } := by
      refine Iv.turnedNew (t' := tk) (ch := [I + 4, I + 2, I + 3, I, I + 1]) (fun c o hn e => ?_) hf (Nat.le_refl _) new
      have n1 : c ≠ I + 4 := fun z => hn (by simp [z])
      exact (sb.2 c n1).trans (hk c o n1 (fun z => hn (by simp [z])) (fun z => hn (by simp [z])) (fun z => hn (by simp [z])) e)
    refine ⟨.ref s.heap.objs.size, _, I1, rfl, ⟨_, x, y, rfl, Iv.hok.fresh (Nat.le_refl _), rfl, ?_, ?_⟩, ?_, fun c hcm => ?_⟩
    · intro l hl
      rw [Iv.tuple_inj hl hqx]
      exact hx
    · intro l hl
      rw [Iv.list_inj hl hqy]
      exact hy
    · have g1 := (List.getElem?_eq_some_iff.mp hx).1
      have g2 := (List.getElem?_eq_some_iff.mp hy).1
      exact ⟨z'', (sb.2 _ (neN (by omega))).trans (hk _ _ (neN (by omega)) (neN (by omega)) (neN (by omega)) (neN (by omega)) st.ti), ⟨u, u2, (sb.2 _ (neN (by omega))).trans to'⟩,
        s1.1.at fun o z => (sb.2 _ (neN (by omega))).trans z, s2.1.at fun o z => (sb.2 _ (neN (by omega))).trans z, by omega, by omega⟩
    · have hlt : c < s.heap.objs.size := by
        rcases fp5 hcm with rfl | rfl | rfl | rfl | rfl <;> exact ltN (by omega)
      rw [upd_ne (Nat.ne_of_lt hlt)]
      exact (hf c hcm).1
  done := by
    intro X hP hw hK hc i pins s σ H E Iv hf st hg
    subst hP hw hK
    obtain ⟨x0, y0, hTO⟩ := st.to
    obtain ⟨xs, ys, ⟨hqx, hxl⟩, ⟨hqy, hyl⟩, hend⟩ := hg
    obtain ⟨its, rv, p, _⟩ := Iv.tuple hqx
    obtain ⟨its2, rv2, p2, _⟩ := Iv.list hqy
    have hh : X.A.in1.handled = none := Iv.ok.hd hc
    have D1 := Draws.tuple (prog := X.prog) (w := X.w) hh I a (Nat.ne_of_lt ha) its.toArray
    have D2 := Draws.list (prog := X.prog) (w := X.w) hh (I + 1) b (Nat.ne_of_lt (Nat.lt_succ_of_lt hb)) its2.toArray
    have l1 : its.toArray.size = n := by rw [List.size_toArray, ← rv.length, hxl]
    have l2 : its2.toArray.size = m := by rw [List.size_toArray, ← rv2.length, hyl]
    have b1 := st.le1
    have b2 := st.le2
    refine wpAny_pyNext_zipD2_end (zsep ha hb) D1 D2 st.zip st.ti hTO ⟨st.one, p⟩ ⟨st.two, p2.isList⟩ (by omega) (by omega) (by omega) fun h' tk hk => ⟨rfl, ?_⟩
    exact Iv.turnedL (t' := tk) (ch := [I + 4, I + 2, I + 3, I, I + 1]) (fun c o hn e =>
      hk c o (fun z => hn (by simp [z])) (fun z => hn (by simp [z])) (fun z => hn (by simp [z])) (fun z => hn (by simp [z])) e) hf
  self := fun A i s Q E st h => wpAny_pyIter_zip st.zip h
/-! ### zip(xs, ys) is made -/
def zx1 (h : Heap) (a : Addr) : Heap := h.push { cls := .type "tuple_iterator", data := .fields #[.ref a, .int 0 0] }
def zx2 (h : Heap) (a b : Addr) : Heap := (zx1 h a).push { cls := .type "list_iterator", data := .fields #[.ref b, .int 0 0] }
def zx3 (h : Heap) (a b : Addr) : Heap := (zx2 h a b).push { cls := .type "tuple", data := .seq #[.ref h.objs.size, .ref (zx1 h a).objs.size] }
def zx4 (h : Heap) (a b : Addr) : Heap := (zx3 h a b).push { cls := .type "tuple", data := .seq #[.none, .none] }
def zx5 (h : Heap) (a b : Addr) : Heap := (zx4 h a b).push { cls := .type "zip", data := .fields #[.none, .bool false, .bool false, .ref (zx2 h a b).objs.size, .ref (zx3 h a b).objs.size] }
theorem zx_new (a b : Addr) (xs ys : Array Value) : Meets (Builtin.«zip.__new__» ⟨[.type "zip", .ref a, .ref b], []⟩) (fun _ R s =>
      s.heap.IsTuple a xs ∧ s.heap.IsList b ys ∧ R (.ok (.ret (.ref (zx4 s.heap a b).objs.size))) { s with heap := zx5 s.heap a b }) :=
  .of_wp fun prog w A R s h => by
    obtain ⟨hp, g, d, tk, os⟩ := s
    obtain ⟨hl1, hl2, h⟩ := h
    have hsub := sub_zip
    have L1 : Heap.IsTuple (Shared.heap ⟨hp, g, d, tk, os⟩) a xs := hl1
    have L2 : Heap.IsList (Shared.heap ⟨zx1 hp a, g, d, tk, os⟩) b ys := Heap.IsList.push hl2 _
    unfold zx1 at L2
    wp_walk using wpAny_pyIter_tuple L1, wpAny_pyIter_list L2
    exact ⟨_, rfl, h⟩
section
variable {prog : Program} {w : World} {A : Around} {E : Value → Shared → Prop} {s : Shared}
theorem call_zipX {a b : Addr} {xs ys : Array Value} {Q : Value → Shared → Prop} (n m : Nat) (hl1 : s.heap.IsTuple a xs) (hl2 : s.heap.IsList b ys)
    (h : ∀ h', ZSt s.heap.objs.size a b n m 0 h' → (∀ c o, s.heap.get? c = some o → h'.get? c = some o) → Q (.ref (s.heap.objs.size + 4)) { s with heap := h' }) :
    wpAny (model prog w) A (call (.type "zip") [.ref a, .ref b]) Q E s := by
  refine callType_new F.called_zip (by decide) (F.typeCall_zip_2 _ _) (F.newCall_zip_2 _ _) (fun obj => F.args_object_init_3 obj _ _)
    F.entry_zip_new (zx_new a b xs ys) ⟨hl1, hl2, ?_⟩
  have s1 : (zx1 s.heap a).objs.size = s.heap.objs.size + 1 := Heap.size_push ..
  have s2 : (zx2 s.heap a b).objs.size = s.heap.objs.size + 2 := (Heap.size_push ..).trans (by rw [s1])
  have s3 : (zx3 s.heap a b).objs.size = s.heap.objs.size + 3 := (Heap.size_push ..).trans (by rw [s2])
  have s4 : (zx4 s.heap a b).objs.size = s.heap.objs.size + 4 := (Heap.size_push ..).trans (by rw [s3])
  have k5 : ∀ {c o}, (zx4 s.heap a b).get? c = some o → (zx5 s.heap a b).get? c = some o := fun e => Heap.get?_push_of_some _ e
  have k4 : ∀ {c o}, (zx3 s.heap a b).get? c = some o → (zx5 s.heap a b).get? c = some o := fun e => k5 (Heap.get?_push_of_some _ e)
  have k3 : ∀ {c o}, (zx2 s.heap a b).get? c = some o → (zx5 s.heap a b).get? c = some o := fun e => k4 (Heap.get?_push_of_some _ e)
  have k2 : ∀ {c o}, (zx1 s.heap a).get? c = some o → (zx5 s.heap a b).get? c = some o := fun e => k3 (Heap.get?_push_of_some _ e)
  have g5 : (zx5 s.heap a b).get? (zx4 s.heap a b).objs.size = some _ := Heap.get?_push_size _ rfl
  have g4 : (zx5 s.heap a b).get? (zx3 s.heap a b).objs.size = some _ := k5 (Heap.get?_push_size _ rfl)
  have g3 : (zx5 s.heap a b).get? (zx2 s.heap a b).objs.size = some _ := k4 (Heap.get?_push_size _ rfl)
  have g2 : (zx5 s.heap a b).get? (zx1 s.heap a).objs.size = some _ := k3 (Heap.get?_push_size _ rfl)
  have g1 : (zx5 s.heap a b).get? s.heap.objs.size = some _ := k2 (Heap.get?_push_size _ rfl)
  show _ ∧ _
  rw [s2, s3, s4] at g5
  rw [s3] at g4
  rw [s1, s2] at g3
  rw [s1] at g2
  rw [s4]
  exact ⟨⟨_, g5, rfl⟩, h _ ⟨g5, g3, ⟨_, _, g4⟩, ⟨_, g1, rfl, rfl⟩, ⟨_, g2, rfl, rfl⟩, Nat.zero_le _, Nat.zero_le _⟩ fun c o e => k2 (Heap.get?_push_of_some _ e)⟩
end
def iZipX (K : PySem.W.Frag) (ta : TA) : TI := fun σ H R => ta σ H fun vs H1 => ∃ a b xs ys, vs = [.ref a, .ref b] ∧ SqT K H1 a xs ∧ SqL K H1 b ys ∧ R (ItzX K a b xs.length ys.length) H1
theorem pi_zipX {X : Cx} {e e2 : Expr} {ta : TA} {p pos tpos : Pos} {elts : List Expr} {kk : Nat} (hg : Gl X "zip") (hm : X.mg "zip" = none) (ha : PA X [e, e2] ta)
    (hs : starEach [e, e2] X.env = (false, eval e X.env) :: starEach [e2] X.env := by rfl) (hpl : (backTo pos (starEach [e2] X.env)).any (·.1) = false := by rfl) :
    PI X (.Tuple elts kk tpos) (.Call (.Name "zip" p) [e, e2] [] pos) (iZipX X.K ta) := ⟨fun pins s σ H R I h => by
  refine Call_ (ld_blt I hg hm boot_zip (callWith_type1 (thn (ha.run pos pins s σ H _ I h) fun us s1 ⟨vs, H1, I1, r1, q1⟩ => ?_) hs hpl))
  obtain ⟨a, b, xs, ys, rfl, hqx, hqy, q⟩ := q1
  obtain ⟨u1, r, rfl, e1, r2⟩ : ∃ u r, us = u :: r ∧ RelV (.ref a) u ∧ Vals [.ref b] r := by
    cases r1 with
    | cons x y => exact ⟨_, _, rfl, x, y⟩
  obtain ⟨u2, rfl, e2⟩ := vals1 r2
  cases e1
  cases e2
  obtain ⟨its, rv, p1, _⟩ := I1.tuple hqx
  obtain ⟨its2, rv2, p2, _⟩ := I1.list hqy
  obtain ⟨o2, ho2, _⟩ := id p1
  refine call_zipX xs.length ys.length p1 p2.isList fun h' st hk => ?_
  have I2 : Inv X pins σ H1 { s1 with heap := h' } := I1.kept (t' := s1.toks) hk
  refine wpAny_pyIter_zip st.zip ⟨_, _, _, _, H1, rfl, I2, turn_zipX (Heap.lt_size ho2) p2.lt, st, fun c hc => ?_, q⟩
  have hle : s1.heap.objs.size ≤ c := by
    rcases fp5 hc with rfl | rfl | rfl | rfl | rfl <;> omega
  exact I1.fpOk hle (I1.hok.fresh hle)⟩
end Mi.TL
/-! zip of lists and tuples, whatever they are, a tuple and a list too. -/
namespace Mi
open PySem L2
def mZipTL {T : Type} (fa fb : ME T) : Env → T → Option (List PyData × T) := fun ρ t => do
  let (r1, t1) ← fa ρ t
  let (r2, t2) ← fb ρ t1
  let x ← still ρ r1
  let y ← still ρ r2
  match x, y with
  | .tuple xs, .list ys => some (zipL xs ys, t2)
  | _, _ => none
section
variable {Γ : Gm} {X : Cx} {a b : Expr} {pos p : Pos} {fa fb : ME Γ.T}
theorem pi_zipTLD {elts : List Expr} {kk : Nat} {tpos : Pos} (hK : X.K = Γ.K) (hg : Gl X "zip") (hm : X.mg "zip" = none) (ha : PE X a (den Γ fa)) (hb : PE X b (den Γ fb))
    (hs : starEach [a, b] X.env = (false, eval a X.env) :: starEach [b] X.env := by rfl) (hs2 : starEach [b] X.env = (false, eval b X.env) :: starEach [] X.env := by rfl) (hpl : (backTo pos (starEach [b] X.env)).any (·.1) = false := by rfl) :
    PI X (.Tuple elts kk tpos) (.Call (.Name "zip" p) [a, b] [] pos) (denI Γ (mZipTL fa fb)) := pi_w (TL.pi_zipX hg hm (pa_cons ha (pa_cons hb pa_nil hs2) hs) hs hpl) fun σ H Rr => by
  rintro ⟨F, ρ, t, items, t', R, e, q⟩
  obtain ⟨⟨r1, t1⟩, e1, e⟩ := bind_some e
  obtain ⟨⟨r2, t2⟩, e2, e⟩ := bind_some e
  obtain ⟨x, ex, e⟩ := bind_some e
  obtain ⟨y, ey, e⟩ := bind_some e
  have fin : ∀ {F' H' : Hp} {t3 : Γ.T} {x y : PyData} {u v : V}, Fin Γ F' H' t3 → Dq Γ.K F' u x → Dq Γ.K F' v y → ∀ T, H' T = none → ∃ F'', Ext [] F' H' F'' (upd H' T (.tup [u, v])) ∧ Dq Γ.K F'' (.ref T) (.tuple [x, y]) := fun {F' H' t3 x y u v} R' k k' T hT =>
    ⟨_, Ext.keep R'.ex hT, .tup (.of upd_same) (.cons (k.mono (Ext.keep (S := []) R'.ex hT).f) (.cons (k'.mono (Ext.keep (S := []) R'.ex hT).f) .nil))⟩
  refine ⟨F, ρ, t, r1, t1, R, e1, fun v1 F1 H1 R1 x1 k1 => ⟨F1, ρ, t1, r2, t2, R1, e2, fun v2 F2 H2 R2 x2 k2 => ?_⟩⟩
  have s1 := still_ok ex R2 (k1.mono x2.f)
  have s2 := still_ok ey R2 k2
  split at e
  · rename_i xs ys _
    cases e
    have listy : ∀ {F' H' : Hp} {t3 : Γ.T}, Same F2 F' → Fin Γ F' H' t3 → ∃ q vs, v1 = .ref q ∧ DqA Γ.K F' vs xs ∧ SqT Γ.K H' q vs := fun {F' H' t3} sm R' => by
      obtain ⟨q1, vs1, z, g1, j1⟩ := sq_of R'.ex (stays sm R' s1 R2.toFin) (show itemsOf (.tuple xs) = some xs from rfl)
      rcases j1 with ⟨⟨es, z⟩, _⟩ | ⟨_, j1⟩
      · cases z
      · exact ⟨q1, vs1, z, g1, j1⟩
    have tupley : ∀ {F' H' : Hp} {t3 : Γ.T}, Same F2 F' → Fin Γ F' H' t3 → ∃ q vs, v2 = .ref q ∧ DqA Γ.K F' vs ys ∧ SqL Γ.K H' q vs := fun {F' H' t3} sm R' => by
      obtain ⟨q1, vs1, z, g1, j1⟩ := sq_of R'.ex (stays sm R' s2 R2.toFin) (show itemsOf (.list ys) = some ys from rfl)
      rcases j1 with ⟨_, j1⟩ | ⟨⟨es, z⟩, _⟩
      · exact ⟨q1, vs1, z, g1, j1⟩
      · cases z
    obtain ⟨q1, vs1, rfl, g1, j1⟩ := listy (Same.refl F2) R2.toFin
    obtain ⟨q2, vs2, rfl, g2, j2⟩ := tupley (Same.refl F2) R2.toFin
    rw [hK]
    refine ⟨q1, q2, vs1, vs2, rfl, j1, j2, q F2 H2 _ R2 (x1.then x2 R2) fun i F' H' t3 s R' => ?_⟩
    obtain ⟨p1, us1, z1, h1, hq1⟩ := listy s R'
    obtain ⟨p2, us2, z2, h2, hq2⟩ := tupley s R'
    cases z1
    cases z2
    have e1 : us1.length = vs1.length := by rw [h1.length, g1.length]
    have e2 : us2.length = vs2.length := by rw [h2.length, g2.length]
    refine ⟨fun d hd => ?_, fun hi => ⟨us1, us2, ⟨hq1, e1⟩, ⟨hq2, e2⟩, ?_⟩⟩
    · obtain ⟨a, b, ha, hb, rfl⟩ := zipL_at hd
      obtain ⟨u, hu, ku⟩ := h1.get ha
      obtain ⟨w, hw, kw⟩ := h2.get hb
      refine ⟨⟨us1, us2, u, w, ⟨hq1, e1⟩, ⟨hq2, e2⟩, hu, hw⟩, fun x' H'' yl => ?_⟩
      obtain ⟨T, u', w', rfl, hT, rfl, y1, y2⟩ := yl
      have e1 := y1 _ hq1
      have e2 := y2 _ hq2
      rw [hu] at e1
      rw [hw] at e2
      cases e1
      cases e2
      exact fin R' ku kw T hT
    · rw [zipL_len] at hi
      rw [g1.length, g2.length]
      omega
  · cases e
def mZip3 {T : Type} (fa fb : ME T) : Env → T → Option (List PyData × T) := fun ρ t => match mZip2 fa fb ρ t with
  | some r => some r
  | none => mZipTL fa fb ρ t
theorem pi_zip3D {elts : List Expr} {kk : Nat} {tpos : Pos} (hK : X.K = Γ.K) (hg : Gl X "zip") (hm : X.mg "zip" = none) (ha : PE X a (den Γ fa)) (hb : PE X b (den Γ fb))
    (hs : starEach [a, b] X.env = (false, eval a X.env) :: starEach [b] X.env := by rfl) (hs2 : starEach [b] X.env = (false, eval b X.env) :: starEach [] X.env := by rfl) (hpl : (backTo pos (starEach [b] X.env)).any (·.1) = false := by rfl) :
    PI X (.Tuple elts kk tpos) (.Call (.Name "zip" p) [a, b] [] pos) (denI Γ (mZip3 fa fb)) := pi_w (pi_or (pi_zip2D hK hg hm ha hb hs hs2 hpl) (pi_zipTLD hK hg hm ha hb hs hs2 hpl)) fun σ H Rr => by
  rintro ⟨F, ρ, t, items, t', R, e, q⟩
  unfold mZip3 at e
  split at e
  · rename_i r er
    cases e
    exact .inl ⟨F, ρ, t, items, t', R, er, q⟩
  · exact .inr ⟨F, ρ, t, items, t', R, e, q⟩
end
section
variable {T : Type} {ρ : Env} {t : T} {fa fb : ME T} {QL : List PyData → T → Prop}
theorem i_zip3 (h : Ew fa ρ t fun x t1 => Ew fb ρ t1 fun y t2 => ∃ xs ys, ((x = .list xs ∨ x = .tuple xs) ∧ (y = .list ys ∨ y = .tuple ys)) ∧ QL (zipL xs ys) t2) : Eg (mZip3 fa fb) ρ t QL := by
  obtain ⟨r1, t1, x, e1, ex, r2, t2, y, e2, ey, xs, ys, hc, q⟩ := h
  have stepZ : ∀ g : T → PyData → PyData → Option (List PyData × T), (do
      let (r1, t1) ← fa ρ t
      let (r2, t2) ← fb ρ t1
      let x ← still ρ r1
      let y ← still ρ r2
      g t2 x y) = g t2 x y := fun g => by
    rw [e1]
    show (fb ρ t1 >>= _) = _
    rw [e2]
    show (still ρ r1 >>= _) = _
    rw [ex]
    show (still ρ r2 >>= _) = _
    rw [ey]
    rfl
  by_cases tl : x = .tuple xs ∧ y = .list ys
  · obtain ⟨rfl, rfl⟩ := tl
    refine ⟨zipL xs ys, t2, ?_, q⟩
    have z1 : mZip fa fb ρ t = none := stepZ fun t2 x y => match x, y with
      | .list xs, .list ys => some (zipL xs ys, t2)
      | .tuple xs, .tuple ys => some (zipL xs ys, t2)
      | _, _ => none
    have z2 : mZipX fa fb ρ t = none := stepZ fun t2 x y => match x, y with
      | .list xs, .tuple ys => some (zipL xs ys, t2)
      | _, _ => none
    unfold mZip3 mZip2
    rw [z1, z2]
    exact stepZ fun t2 x y => match x, y with
      | .tuple xs, .list ys => some (zipL xs ys, t2)
      | _, _ => none
  · obtain ⟨l, t3, e3, q3⟩ := i_zip2 (QL := fun l t => l = zipL xs ys ∧ t = t2) ⟨r1, t1, x, e1, ex, r2, t2, y, e2, ey, xs, ys, by
      rcases hc with ⟨rfl | rfl, rfl | rfl⟩
      · exact .inl ⟨rfl, rfl⟩
      · exact .inr (.inr ⟨rfl, rfl⟩)
      · exact absurd ⟨rfl, rfl⟩ tl
      · exact .inr (.inl ⟨rfl, rfl⟩), rfl, rfl⟩
    obtain ⟨rfl, rfl⟩ := q3
    refine ⟨_, _, ?_, q⟩
    unfold mZip3
    rw [e3]
theorem zz3_LT {xs ys : List PyData} {P : List PyData → List PyData → Prop} (q : P xs ys) : ∃ as bs, ((PyData.list xs = .list as ∨ PyData.list xs = .tuple as) ∧ (PyData.tuple ys = .list bs ∨ PyData.tuple ys = .tuple bs)) ∧ P as bs := ⟨xs, ys, ⟨.inl rfl, .inr rfl⟩, q⟩
theorem zz3_TL {xs ys : List PyData} {P : List PyData → List PyData → Prop} (q : P xs ys) : ∃ as bs, ((PyData.tuple xs = .list as ∨ PyData.tuple xs = .tuple as) ∧ (PyData.list ys = .list bs ∨ PyData.list ys = .tuple bs)) ∧ P as bs := ⟨xs, ys, ⟨.inr rfl, .inl rfl⟩, q⟩
end
end Mi
/-! x in xs, a list of any data. -/
namespace Mi
open PySem L2 PySem.Spec PyProof.Rows
def inS (x y : PyData) : Option PyData := match y with
  | .list ds => if SeqAt.shaped x = true ∧ SeqAt.shaped (.list ds) = true then some (.bool (ds.any fun z => PyData.eqv z x)) else none
  | _ => none
def notInS (x y : PyData) : Option PyData := match y with
  | .list ds => if SeqAt.shaped x = true ∧ SeqAt.shaped (.list ds) = true then some (.bool (!ds.any fun z => PyData.eqv z x)) else none
  | _ => none
section
variable {X : Cx}
theorem op_notInS (hu : X.A.units + 65 < cLine) : OpR X (compareOp .NotIn) (rD X.K notInS) := by
  rintro pins s σ H v w a b Q I ra rb ⟨F, x, y, z, sm, dx, dy, e, q⟩
  unfold notInS at e
  split at e
  · rename_i ds
    split at e
    · rename_i hsh
      cases e
      exact L2.op_notInD hu pins s σ H _ _ a b Q I ra rb ⟨x, ds, Dv.dp sm dx (SeqAt.canLay_of_shaped hsh.1), Dv.dp sm dy (SeqAt.canLay_of_shaped hsh.2), hsh.1, hsh.2, q _ F H (Ext.refl sm) (.bl _)⟩
    · cases e
  · cases e
end
end Mi
/-! sorted(set(xs)), len(set(xs)), xs a list of tuples of ints. -/
namespace Mi
open PySem L2 PySem.Spec PyProof.Rows
def natL : PyData → Option (List Int)
  | .tuple ds => intsOf ds
  | _ => none
def tupsOf : List PyData → Option (List (List Int))
  | [] => some []
  | d :: r => match natL d with
    | some k => match tupsOf r with
      | some ks => some (k :: ks)
      | none => none
    | none => none
def tupI (k : List Int) : PyData := .tuple (k.map .int)
def nub : List (List Int) → List (List Int)
  | [] => []
  | k :: r => if k ∈ nub r then nub r else k :: nub r
theorem nub_mem {k : List Int} : ∀ {ks : List (List Int)}, k ∈ nub ks ↔ k ∈ ks
  | [] => Iff.rfl
  | x :: r => by
    unfold nub
    split
    · rename_i hx
      rw [nub_mem (ks := r), List.mem_cons]
      constructor
      · exact .inr
      · rintro (rfl | h)
        · exact nub_mem.mp hx
        · exact h
    · rw [List.mem_cons, List.mem_cons, nub_mem (ks := r)]
theorem nub_nodup : ∀ ks : List (List Int), (nub ks).Nodup
  | [] => List.nodup_nil
  | x :: r => by
    unfold nub
    split
    · exact nub_nodup r
    · rename_i hx
      exact List.nodup_cons.mpr ⟨hx, nub_nodup r⟩
def sset (ks : List (List Int)) : List (List Int) := (nub ks).mergeSort fun a b => decide (TS.code 64 a ≤ TS.code 64 b)
def setOk (ks : List (List Int)) : Prop := ks.length < 64 ∧ 1 ≤ (ks.headD []).length ∧ ∀ k ∈ ks, k.length = (ks.headD []).length ∧ TS.Bd 64 k
instance (ns : List Int) : Decidable (TS.Bd 64 ns) := inferInstanceAs (Decidable (∀ m, m ∈ ns → 0 ≤ m ∧ m < 64))
instance (ks : List (List Int)) : Decidable (setOk ks) := inferInstanceAs (Decidable (_ ∧ _ ∧ _))
def sortSetD : List PyData → Option PyData
  | [.list ds] => match tupsOf ds with
    | some ks => if setOk ks then some (.list ((sset ks).map tupI)) else none
    | none => none
  | _ => none
def lenSetD : List PyData → Option PyData
  | [.list ds] => match tupsOf ds with
    | some ks => if ks.length < 64 then some (.int (((nub ks).length : Nat) : Int)) else none
    | none => none
  | _ => none
/-! ### the code tells tuples of one length apart -/
theorem code_inj : ∀ {a b : List Int}, a.length = b.length → TS.Bd 64 a → TS.Bd 64 b → TS.code 64 a = TS.code 64 b → a = b
  | [], [], _, _, _, _ => rfl
  | [], _ :: _, h, _, _, _ => by cases h
  | _ :: _, [], h, _, _, _ => by cases h
  | x :: r, y :: q, h, h1, h2, e => by
    have hl : r.length = q.length := by simpa using h
    rcases Int.lt_trichotomy x y with c | c | c
    · have := TS.code_lt (B := 64) hl h1.tail h2.tail c
      omega
    · subst c
      have e2 : TS.code 64 r = TS.code 64 q := by
        rcases Int.lt_trichotomy (TS.code 64 r) (TS.code 64 q) with c | c | c
        · have := (TS.code_same (B := 64) (d := x) hl).mpr c
          omega
        · exact c
        · have := (TS.code_same (B := 64) (d := x) hl.symm).mpr c
          omega
      rw [code_inj hl h1.tail h2.tail e2]
    · have := TS.code_lt (B := 64) hl.symm h2.tail h1.tail c
      omega
theorem sorted_one {f : List Int → Int} : ∀ {as bs : List (List Int)}, as.Perm bs → as.Pairwise (fun a b => f a ≤ f b) → bs.Pairwise (fun a b => f a ≤ f b) → (∀ a ∈ as, ∀ b ∈ as, f a = f b → a = b) → as = bs
  | [], bs, p, _, _, _ => (List.nil_perm.mp p).symm
  | a :: as, [], p, _, _, _ => by cases (List.perm_nil.mp p)
  | a :: as, b :: bs, p, ha, hb, inj => by
    have ea : a = b := by
      have m1 : b ∈ a :: as := p.symm.subset List.mem_cons_self
      have m2 : a ∈ b :: bs := p.subset List.mem_cons_self
      rcases List.mem_cons.mp m1 with e | m1'
      · exact e.symm
      · rcases List.mem_cons.mp m2 with e | m2'
        · exact e
        · have h1 := (List.pairwise_cons.mp ha).1 b m1'
          have h2 := (List.pairwise_cons.mp hb).1 a m2'
          exact inj a List.mem_cons_self b m1 (by omega)
    subst ea
    rw [sorted_one (List.Perm.cons_inv p) (List.pairwise_cons.mp ha).2 (List.pairwise_cons.mp hb).2 fun x mx y my => inj x (List.mem_cons_of_mem _ mx) y (List.mem_cons_of_mem _ my)]
theorem sset_perm (ks : List (List Int)) : (sset ks).Perm (nub ks) := List.mergeSort_perm ..
theorem sset_sorted (ks : List (List Int)) : (sset ks).Pairwise fun a b => TS.code 64 a ≤ TS.code 64 b := by
  have := List.pairwise_mergeSort (le := fun a b : List Int => decide (TS.code 64 a ≤ TS.code 64 b)) (fun a b c h1 h2 => by
    have h1 := of_decide_eq_true h1
    have h2 := of_decide_eq_true h2
    exact decide_eq_true (by omega)) (fun a b => by
    rcases Int.le_total (TS.code 64 a) (TS.code 64 b) with h | h
    · rw [decide_eq_true h]; rfl
    · rw [decide_eq_true h, Bool.or_true]) (nub ks)
  exact this.imp fun h => of_decide_eq_true h
theorem sset_is {ks ls : List (List Int)} (ok : setOk ks) (hn : ls.Nodup) (h1 : ∀ k ∈ ls, k ∈ ks) (h2 : ∀ k ∈ ks, k ∈ ls) (hs : ls.Pairwise fun a b => TS.code 64 a ≤ TS.code 64 b) : ls = sset ks := by
  have p : ls.Perm (nub ks) := (List.perm_ext_iff_of_nodup hn (nub_nodup ks)).mpr fun k => ⟨fun m => nub_mem.mpr (h1 k m), fun m => h2 k (nub_mem.mp m)⟩
  refine sorted_one (f := TS.code 64) (p.trans (sset_perm ks).symm) hs (sset_sorted ks) fun a ma b mb e => ?_
  obtain ⟨l1, b1⟩ := ok.2.2 a (h1 a ma)
  obtain ⟨l2, b2⟩ := ok.2.2 b (h1 b mb)
  exact code_inj (by omega) b1 b2 e
/-! ### the calls -/
section
variable {K : PySem.W.Frag} {F H : Hp}
theorem ints_dqB : ∀ {ds : List PyData} {vs : List V} {k : List Int}, DqA K F vs ds → intsOf ds = some k → vs = k.map V.int ∧ ds = k.map PyData.int
  | [], _, k, .nil, e => by
    cases e
    exact ⟨rfl, rfl⟩
  | d :: ds, _, k, .cons h t, e => by
    cases h with
    | int i =>
      have e : (intsOf ds).map (i :: ·) = some k := e
      cases z : intsOf ds with
      | none => rw [z] at e; cases e
      | some k' =>
        rw [z] at e
        cases e
        obtain ⟨h1, h2⟩ := ints_dqB t z
        exact ⟨by rw [h1]; rfl, by rw [h2]; rfl⟩
    | _ => cases e
theorem tups_dqB : ∀ {ds : List PyData} {vs : List V} {ks : List (List Int)}, DqA K F vs ds → tupsOf ds = some ks → ∃ L : List (Addr × List Int), vs = L.map (fun p => V.ref p.1) ∧ L.map (·.2) = ks ∧ ∀ p ∈ L, Dq K F (.ref p.1) (tupI p.2)
  | [], _, _, .nil, e => by
    cases e
    exact ⟨[], rfl, rfl, fun p m => nomatch m⟩
  | d :: ds, _, _, .cons h t, e => by
    unfold tupsOf at e
    cases z : natL d with
    | none => rw [z] at e; cases e
    | some k =>
      rw [z] at e
      cases z2 : tupsOf ds with
      | none => rw [z2] at e; cases e
      | some ks' =>
        rw [z2] at e
        cases e
        obtain ⟨L, e1, e2, e3⟩ := tups_dqB t z2
        cases h with
        | tup h1 k1 =>
          rename_i l vs' ds'
          have z : intsOf ds' = some k := z
          obtain ⟨g1, g2⟩ := ints_dqB k1 z
          refine ⟨(l, k) :: L, by rw [e1]; rfl, by rw [← e2]; rfl, fun p m => ?_⟩
          rcases List.mem_cons.mp m with rfl | m
          · show Dq K F (.ref l) (tupI k)
            unfold tupI
            rw [← g2]
            exact .tup h1 k1
          · exact e3 p m
        | _ => cases z
theorem tup_sq {l : Addr} {k : List Int} (sm : Same F H) (h : Dq K F (.ref l) (tupI k)) : SqT K H l (k.map V.int) := by
  unfold tupI at h
  cases h with
  | tup h1 k1 =>
    have e : intsOf (k.map PyData.int) = some k := by
      clear h1 k1 sm
      induction k with
      | nil => rfl
      | cons x r ih => show (intsOf (r.map PyData.int)).map (x :: ·) = _; rw [ih]; rfl
    obtain ⟨g1, _⟩ := ints_dqB k1 e
    rw [g1] at h1
    exact same_t sm h1
theorem tups_DqB {L : List (Addr × List Int)} (h : ∀ p ∈ L, Dq K F (.ref p.1) (tupI p.2)) : DqA K F (L.map fun p => V.ref p.1) ((L.map (·.2)).map tupI) := by
  induction L with
  | nil => exact .nil
  | cons p r ih => exact .cons (h p List.mem_cons_self) (ih fun q m => h q (List.mem_cons_of_mem _ m))
end
def rSSet (P : Program) (K : PySem.W.Frag) (w : World) : List V → Hp → VK → Prop := fun vs H Q => rSetOfT K P w vs H fun y H2 => rSortedT K P w [y] H2 Q
section
variable {P : Program} {w : World} {K : PySem.W.Frag}
/-- from a list of tuples to what the set is made of -/
theorem set_of {H : Hp} {vs : List V} {ds : List PyData} {ks : List (List Int)} {F : Hp} {Q : VK} (sm : Same F H) (dx : DvA K F H vs [.list ds]) (e : tupsOf ds = some ks) (hl : ks.length < 64)
    (q : ∀ (a : Addr) (L : List (Addr × List Int)), H a = none → (∀ k ∈ L.map (·.2), k ∈ ks) → (∀ k ∈ ks, k ∈ L.map (·.2)) → (∀ p ∈ L, Dq K F (.ref p.1) (tupI p.2)) → Q (.ref a) (upd H a (SetTO P w a L))) : rSetOfT K P w vs H Q := by
  obtain ⟨v, rfl, l, ws, rfl, h1, k1⟩ := f1 dx
  obtain ⟨L0, e1, e2, e3⟩ := tups_dqB k1 e
  refine ⟨l, L0, rfl, by rw [← e1]; exact .of h1, fun p m => tup_sq sm (e3 p m), by rw [← e2, List.length_map] at hl; exact hl, fun a L ha hs hb => q a L ha (fun k m => ?_) (fun k m => ?_) fun p m => e3 p (hs p m)⟩
  · obtain ⟨p, mp, rfl⟩ := List.mem_map.mp m
    rw [← e2]
    exact List.mem_map.mpr ⟨p, hs p mp, rfl⟩
  · rw [← e2] at m
    obtain ⟨p, mp, rfl⟩ := List.mem_map.mp m
    exact hb p mp
theorem two_new {F H : Hp} {a p : Addr} {x y : HO} (sm : Same F H) (ha : H a = none) (hp : (upd H a x) p = none) : Ext [] F H (upd F p y) (upd (upd H a x) p y) := by
  have x1 : Ext [] F H F (upd H a x) := Ext.new sm ha
  exact x1.trans (Ext.keep x1.e hp) fun _ m => nomatch m
theorem set_sorted {H : Hp} {vs : List V} {Q : VK} (h : rC K sortSetD vs H Q) : rSSet P K w vs H Q := by
  obtain ⟨F, xs, z, sm, dx, e, q⟩ := h
  unfold sortSetD at e
  split at e
  · rename_i ds
    split at e
    · rename_i ks e1
      split at e
      · rename_i ok
        cases e
        refine set_of sm dx e1 ok.1 fun a L ha hs hb hd => ?_
        have x1 : Ext [] F H F (upd H a (SetTO P w a L)) := Ext.new sm ha
        refine ⟨a, L, (ks.headD []).length, 64, rfl, upd_same, fun p m => tup_sq x1.e (hd p m), ok.2.1, fun p m => ok.2.2 _ (hs _ (List.mem_map.mpr ⟨p, m, rfl⟩)), fun L' p pm nd _ pw hp => ?_⟩
        have x2 := two_new (y := .lst (L'.map fun q => V.ref q.1)) sm ha hp
        have es : L'.map (·.2) = sset ks := sset_is ok nd (fun k m => hs k ((pm.map (·.2)).subset m)) (fun k m => (pm.map (·.2)).symm.subset (hb k m)) (List.pairwise_map.mpr pw)
        refine q _ _ _ x2 (.lst upd_same ?_)
        rw [← es]
        exact (tups_DqB (F := F) fun p m => hd p (pm.subset m)).mono x2.f
      · cases e
    · cases e
  · cases e
def rLenT (P : Program) (K : PySem.W.Frag) (w : World) : List V → Hp → VK → Prop := fun vs H Q => ∃ a L, vs = [.ref a] ∧ H a = some (SetTO P w a L) ∧ (∀ p ∈ L, SqT K H p.1 (p.2.map V.int)) ∧ ((L.map (·.2)).Nodup → Q (.int ((L.length : Nat) : Int)) H)
theorem cr_lenT {X : Cx} : CallR X (.builtin "len") (rLenT X.prog X.K X.w) := by
  intro pins s σ H vs us Q I r h
  obtain ⟨a, L, rfl, ha, hk, q⟩ := h
  have R0 : SetT0 X.prog X.w s.heap a L := (I.hok a _ ha).1
  obtain ⟨es, ep, t, R⟩ := R0.full fun p hp => I.isT (hk p hp)
  rw [Vals.ref1 r]
  obtain ⟨o, ho, hex, hd⟩ := R.ob
  have hsz := R.size
  have hfew := R.few
  refine call_len_set ho hex hd R.fits (by rw [hsz]; omega) ?_
  rw [hsz]
  exact ⟨.int ((L.length : Nat) : Int), H, I.tok _, ⟨_, rfl⟩, q R.nd⟩
theorem set_len {H : Hp} {vs : List V} {Q : VK} (h : rC K lenSetD vs H Q) : rSetOfT K P w vs H fun y H2 => rLenT P K w [y] H2 Q := by
  obtain ⟨F, xs, z, sm, dx, e, q⟩ := h
  unfold lenSetD at e
  split at e
  · rename_i ds
    split at e
    · rename_i ks e1
      split at e
      · rename_i hl
        cases e
        refine set_of sm dx e1 hl fun a L ha hs hb hd => ?_
        have x1 : Ext [] F H F (upd H a (SetTO P w a L)) := Ext.new sm ha
        refine ⟨a, L, rfl, upd_same, fun p m => tup_sq x1.e (hd p m), fun nd => ?_⟩
        have p : (L.map (·.2)).Perm (nub ks) := (List.perm_ext_iff_of_nodup nd (nub_nodup ks)).mpr fun k => ⟨fun m => nub_mem.mpr (hs k m), fun m => hb k (nub_mem.mp m)⟩
        have hl2 : L.length = (nub ks).length := by rw [← p.length_eq, List.length_map]
        rw [hl2]
        exact q _ _ _ x1 (.int _)
      · cases e
    · cases e
  · cases e
end
section
variable {X : Cx} {Γ : Gm} {a : Expr} {fa : ME Γ.T} {p p2 pos q : Pos}
theorem pe_sortSet (hc : X.calm = true) (hu : X.A.units + 64 < cLine) (hK : X.K = Γ.K) (hg : Gl X "sorted") (hm : X.mg "sorted" = none) (hg2 : Gl X "set") (hm2 : X.mg "set" = none) (ha : PE X a (den Γ fa))
    (na : starEach [a] X.env = (false, eval a X.env) :: starEach [] X.env := by rfl) (nb : starEach [.Call (.Name "set" p2) [a] [] q] X.env = (false, eval (.Call (.Name "set" p2) [a] [] q) X.env) :: starEach [] X.env := by rfl) (n1 : (backTo pos (starEach [] X.env)).any (·.1) = false := by rfl) (n2 : (backTo q (starEach [] X.env)).any (·.1) = false := by rfl) :
    PE X (.Call (.Name "sorted" p) [.Call (.Name "set" p2) [a] [] q] [] pos) (den Γ (mCall sortSetD (mCons fa mNil))) :=
  pe_w (pe_callB (cr_sortedT hc) hg hm boot_sorted (pa_cons (pe_callTy (cr_setOfT hc hu) hg2 hm2 boot_set (pa_consD ha pa_nilD na) (by decide) (by decide) na n2) pa_nil nb) (by decide) (by decide) nb n1) fun σ H Q h => by
    have h := w_call σ H Q h
    obtain ⟨F, ρ, t, r, t', R, e, q⟩ := h
    refine ⟨F, ρ, t, r, t', R, e, fun vs F1 H1 R1 x1 k1 => ?_⟩
    have := q vs F1 H1 R1 x1 k1
    rw [← hK] at this
    exact set_sorted this
theorem pe_lenSetT (hc : X.calm = true) (hu : X.A.units + 64 < cLine) (hK : X.K = Γ.K) (hg : Gl X "len") (hm : X.mg "len" = none) (hg2 : Gl X "set") (hm2 : X.mg "set" = none) (ha : PE X a (den Γ fa))
    (na : starEach [a] X.env = (false, eval a X.env) :: starEach [] X.env := by rfl) (nb : starEach [.Call (.Name "set" p2) [a] [] q] X.env = (false, eval (.Call (.Name "set" p2) [a] [] q) X.env) :: starEach [] X.env := by rfl) (n1 : (backTo pos (starEach [] X.env)).any (·.1) = false := by rfl) (n2 : (backTo q (starEach [] X.env)).any (·.1) = false := by rfl) :
    PE X (.Call (.Name "len" p) [.Call (.Name "set" p2) [a] [] q] [] pos) (den Γ (mCall lenSetD (mCons fa mNil))) :=
  pe_w (pe_callB cr_lenT hg hm boot_len (pa_cons (pe_callTy (cr_setOfT hc hu) hg2 hm2 boot_set (pa_consD ha pa_nilD na) (by decide) (by decide) na n2) pa_nil nb) (by decide) (by decide) nb n1) fun σ H Q h => by
    have h := w_call σ H Q h
    obtain ⟨F, ρ, t, r, t', R, e, q⟩ := h
    refine ⟨F, ρ, t, r, t', R, e, fun vs F1 H1 R1 x1 k1 => ?_⟩
    have := q vs F1 H1 R1 x1 k1
    rw [← hK] at this
    exact set_len this
end
end Mi
/-! x in d, d[k] = v of one's own dict, keys ints and texts. -/
namespace Mi
open PySem L2 PySem.Spec PyProof.Rows
def inDct (x y : PyData) : Option PyData := match y with
  | .dict es => match keyD x with
    | some k => some (.bool (dgetK es k).isSome)
    | none => none
  | _ => none
def notInDct (x y : PyData) : Option PyData := match y with
  | .dict es => match keyD x with
    | some k => some (.bool (!(dgetK es k).isSome))
    | none => none
  | _ => none
section
variable {K : PySem.W.Frag} {F H : Hp}
theorem key_v {x : PyData} {k : Key} {v : V} (h : keyD x = some k) (d : Dv K F H v x) : v = kV k := by
  cases x with
  | int i => cases h; exact d
  | str s => cases h; exact d
  | _ => cases h
theorem dgetK_none {k : Key} : ∀ {kvs : List (Key × V)} {es : List (PyData × PyData)}, DqK K F kvs es → dgetK es k = none → valV kvs k = none
  | _, _, .nil, _ => rfl
  | (k', v) :: kvs, _, .cons (ds := ds) h t, e => by
    unfold dgetK at e
    rw [keyD_k] at e
    by_cases q : k' = k
    · subst q
      rw [if_pos rfl] at e
      cases e
    · rw [if_neg (by intro z; cases z; exact q rfl)] at e
      unfold valV
      rw [List.find?_cons_of_neg (by simpa using q)]
      exact dgetK_none t e
theorem dgetK_some {k : Key} {kvs : List (Key × V)} {es : List (PyData × PyData)} (h : DqK K F kvs es) : (valV kvs k).isSome = (dgetK es k).isSome := by
  cases e : dgetK es k with
  | none => rw [dgetK_none h e]; rfl
  | some d =>
    obtain ⟨v, e2, _⟩ := dgetK_ok h e
    rw [e2]
    rfl
theorem DqK.snoc {k : Key} {v : V} {d : PyData} (hd : Dq K F v d) : ∀ {kvs : List (Key × V)} {es : List (PyData × PyData)}, DqK K F kvs es → DqK K F (kvs ++ [(k, v)]) (es ++ [(kD k, d)])
  | _, _, .nil => .cons hd .nil
  | _, _, .cons h t => .cons h (DqK.snoc hd t)
end
section
variable {X : Cx}
theorem op_notInDct (hu : X.A.units + 1 < cLine) : OpR X (compareOp .NotIn) (rD X.K notInDct) := by
  rintro pins s σ H v w a b Q I ra rb ⟨F, x, y, z, sm, dx, dy, e, q⟩
  unfold notInDct at e
  split at e
  · rename_i es
    split at e
    · rename_i k hk
      cases e
      obtain ⟨l, kvs, rfl, h1, k1⟩ := dy
      obtain rfl := key_v hk dx
      cases (show b = Value.ref l from rb)
      have g : DGet H l (kV k) (valV kvs k) := .inl ⟨kvs, k, .inl h1, rfl, rfl⟩
      refine d_notIn hu I g ra fun s' I' => ⟨.bl _, H, I', rfl, ?_⟩
      rw [dgetK_some k1]
      exact q _ F H (Ext.refl sm) (.bl _)
    · cases e
  · cases e
end
/-- d[k] = v, k new -/
def mDNew {T : Type} (i : Nat) (fk fa : ME T) : MS T := fun ρ t => match fa ρ t with
  | some (.fro d, t1) => match fk ρ t1 with
    | some (.fro x, t2) => match ρ[i]? with
      | some (some (.own (.dict es))) => match keyD x with
        | some k => if (dgetK es k).isSome = false ∧ es.length < sizeLine then some (.nx (ρ.set i (some (.own (.dict (es ++ [(kD k, d)]))))), t2) else none
        | none => none
      | _ => none
    | _ => none
  | _ => none
section
variable {X : Cx} {Γ : Gm} {i : Nat} {o k a : Expr} {q2 pos : Pos} {fk fa : ME Γ.T}
theorem ps_dNewD (hu : X.A.units + 1 < cLine) (ho : PE X o (tVar i)) (hi : PE X k (den Γ fk)) (ha : PE X a (den Γ fa))
    (hs : swapsWithSole [.Subscript o k q2] a pos.line X.env = pure false := by rfl) (hw : swappedStores [.Subscript o k q2] a X.env = pure none := by rfl)
    (h1 : (assignEach [.Subscript o k q2] X.env).map (·.2) = [assign (.Subscript o k q2) X.env] := by rfl)
    (hx : ∀ v, assign (.Subscript o k q2) X.env v = (do
      let ov ← holding [v] (eval o X.env)
      let iv ← holding [v, ov] (eval k X.env)
      standAt q2
      holding [v, ov, iv] (setItem ov iv v)
      release [v, ov, iv] []) := by intro _; rfl) : PS X (.Assign [.Subscript o k q2] a pos) (denS Γ (mDNew i fk fa)) :=
  ps_w (ps_asg ha (pg_sub ho hi (set_dict hu) hx) hs hw h1) fun D σ H => by
    rintro ⟨F, ρ, t, r, t', R, e, q⟩
    unfold mDNew at e
    split at e
    · rename_i d t1 e1
      split at e
      · rename_i x t2 e2
        split at e
        · rename_i es e3
          split at e
          · rename_i kk e4
            split at e
            · rename_i hc
              cases e
              refine ⟨F, ρ, t, _, _, R, e1, fun v F1 H1 R1 x1 k1 => ?_⟩
              obtain ⟨p1, h1, _⟩ := R1.slots i _ e3
              refine ⟨_, h1, F1, ρ, _, _, _, R1, e2, fun y F2 H2 R2 x2 k2 => ?_⟩
              obtain ⟨p2, g1, ⟨g2, kvs, g3, g4⟩, _, _⟩ := R2.slots i _ e3
              rw [h1] at g1
              cases g1
              have ky : y = kV kk := key_v e4 (R2.read (r := .fro x) k2 rfl)
              have hn : valV kvs kk = none := by
                have := dgetK_some (k := kk) g4
                rw [hc.1] at this
                cases z : valV kvs kk with
                | none => rfl
                | some u => rw [z] at this; cases this
              have hl : kvs.length < sizeLine := by rw [g4.length]; exact hc.2
              refine ⟨p1, _, rfl, .inl ⟨kvs, kk, g3, ky, hl, rfl⟩, ?_⟩
              rw [putK_new v hn]
              exact q σ F2 _ (R2.turn e3 h1 ⟨g2, _, upd_same, g4.snoc ((show Dq Γ.K F1 v d from k1).mono x2.f)⟩) (x1.f.trans x2.f)
            · cases e
          · cases e
        · cases e
      · cases e
    · cases e
end
section
variable {T : Type} {ρ : Env} {t : T} {i : Nat} {fk fa : ME T} {N : Env → T → Prop} {R : PyData → T → Prop} {B C : Env → T → Prop}
theorem s_dNew (h : Ef fa ρ t fun d t1 => Ef fk ρ t1 fun x t2 => ∃ es k, ρ[i]? = some (some (.own (.dict es))) ∧ keyD x = some k ∧ (dgetK es k).isSome = false ∧ es.length < sizeLine ∧ N (ρ.set i (some (.own (.dict (es ++ [(kD k, d)]))))) t2) : Es (mDNew i fk fa) ρ t N R B C := by
  obtain ⟨d, t1, e, x, t2, e2, es, k, e3, e4, h1, h2, q⟩ := h
  refine ⟨.nx _, t2, ?_, q⟩
  unfold mDNew
  rw [e]
  dsimp only
  rw [e2]
  dsimp only
  rw [e3]
  dsimp only
  rw [e4]
  dsimp only
  rw [if_pos ⟨h1, h2⟩]
end
end Mi
/-! A comprehension over a list of one's own, which stays. -/
namespace Mi
open PySem L2 PySem.Spec PyProof.Rows
def mLcO {T : Type} (j : Nat) (g : PyData → Env → Option Env) (c : Env → T → Option (Bool × T)) (f : ME T) (vs : List Nat) : Env → T → Option (PyData × T) := fun ρ t => match (wipeR ρ vs)[j]? with
  | some (some (.own (.list items))) => match lcL g c f (wipeR ρ vs) items [] t with
    | some (ds, t2) => some (.list ds, t2)
    | none => none
  | _ => none
section
variable {Γ : Gm} {X : Cx} {j0 : Nat} {g : PyData → Env → Option Env} {tc : Env → Γ.T → Option (Bool × Γ.T)} {vs : List Nat} {fc : ME Γ.T} {pos : Pos}
theorem w_lcO (hK : X.K = Γ.K) (σ : L2.St) (H : Hp) (Q : VK) : denL Γ (mLcO j0 g tc fc vs) σ H Q → tLc (iList X.K (tVar j0)) (denG Γ vs g) (denT Γ tc) (den Γ fc) vs σ H Q := by
  rintro ⟨F, ρ, t, r, t', R, e, q⟩
  unfold mLcO at e
  split at e
  · rename_i items e1
    split at e
    · rename_i ds t2 e2
      cases e
      obtain ⟨e0, nj⟩ := wipeR_get e1
      obtain ⟨p0, hp0, own0, _, _⟩ := R.slots j0 _ e0
      obtain ⟨_, us0, hu0, _⟩ := id own0
      refine ⟨_, hp0, p0, rfl, ⟨us0, .of hu0⟩, fun D hD => ?_⟩
      have R1 : Rep Γ F H σ ρ t := R
      have x1 : Ext Γ.S F H F H := Ext.refl R.ex
      have oldD := R1.toFin.old hD
      have fD1 : F D = none := R1.ex.free hD
      refine ⟨fun i m H2 => m = items.length - i ∧ i ≤ items.length ∧ ∃ F2 t2 acc xs, Ext Γ.S F H F2 H2 ∧ Rep Γ F2 H2 (wipe σ vs) (wipeR ρ vs) t2 ∧ H2 D = some (.lst xs) ∧ F2 D = none ∧ DqA Γ.K F2 xs acc ∧ lcL g tc fc (wipeR ρ vs) (items.drop i) acc t2 = some (ds, t'),
        ⟨items.length, by simp, Nat.zero_le _, F, t, [], [], Ext.new R1.ex hD, (R1.ext0 (Ext.new R1.ex hD)).wiped vs, upd_same, fD1, .nil, by simpa using e2⟩, ?_⟩
      rintro i m H2 ⟨rfl, hi, F2, t2, acc, xs, x2, R2, hD2, fD2, k2, e3⟩
      obtain ⟨p2, hp2, ⟨_, us, hu, ku⟩, _, _⟩ := R2.slots j0 _ e1
      rw [wipe_out nj, hp0] at hp2
      cases hp2
      by_cases hlt : i < items.length
      · right
        have hd : items[i]? = some items[i] := List.getElem?_eq_getElem hlt
        obtain ⟨uv, huv, kuv⟩ := ku.get hd
        have go : (Itl X.K p0).go i H2 := ⟨us, uv, .of hu, huv⟩
        have yl : ∀ x H'', (Itl X.K p0).yld i H2 x H'' → ∃ F'', Ext [] F2 H2 F'' H'' ∧ Dq Γ.K F'' x items[i] := fun x H'' y => by
          obtain ⟨rfl, y2⟩ := y
          have := y2 us (.of hu)
          rw [huv] at this
          cases this
          exact ⟨F2, Ext.refl R2.ex, kuv⟩
        have eD : items.drop i = items[i] :: items.drop (i + 1) := List.drop_eq_getElem_cons hlt
        rw [eD] at e3
        unfold lcL at e3
        split at e3
        · cases e3
        · rename_i ρ3 e4
          refine ⟨go, fun H' => ∃ F' t2' acc' xs', Ext Γ.S F H F' H' ∧ Rep Γ F' H' (wipe σ vs) (wipeR ρ vs) t2' ∧ H' D = some (.lst xs') ∧ F' D = none ∧ DqA Γ.K F' xs' acc' ∧ lcL g tc fc (wipeR ρ vs) (items.drop (i + 1)) acc' t2' = some (ds, t'), fun H' hN => ?_, fun x H' hy => ?_⟩
          · obtain ⟨F', t2', acc', xs', n⟩ := hN
            exact ⟨items.length - (i + 1), by omega, rfl, hlt, F', t2', acc', xs', n⟩
          · obtain ⟨F3, x3, k3⟩ := yl x H' hy
            have R3 := R2.ext0 x3
            refine ⟨F3, wipeR ρ vs, t2, _, ρ3, R3, k3, e4, fun σ3 R4 w3 => ?_⟩
            have ww : wipe (wipe σ vs) vs = wipe σ vs := by
              have gen : ∀ (us : List Nat), (∀ u ∈ us, u ∈ vs) → wipe (wipe σ us) vs = wipe σ vs := by
                intro us
                induction us with
                | nil => intro _; rfl
                | cons u us ih =>
                  intro hu
                  show wipe ((wipe σ us).set u none) vs = wipe σ vs
                  rw [wipe_put (hu u List.mem_cons_self), ih fun z hz => hu z (List.mem_cons_of_mem _ hz)]
              exact gen vs fun _ h => h
            refine ⟨w3.trans ww, ?_⟩
            have x23 : Ext Γ.S F H F3 H' := x2.then x3.wide R3
            have dH : ∀ {F5 H5 : Hp} {ρ5 : Env} {σ5 : L2.St} {t5 : Γ.T}, Ext Γ.S F3 H' F5 H5 → Rep Γ F5 H5 σ5 ρ5 t5 → H5 D = some (.lst xs) ∧ F5 D = none := fun {F5 H5 ρ5 σ5 t5} x5 R5 =>
              ⟨x5.h D _ oldD.2 (x3.h D _ (by simp) hD2), x5.n D (.lst xs) (x3.n D _ fD2 hD2) (x3.h D _ (by simp) hD2)⟩
            split at e3
            · rename_i t4 e5
              refine ⟨F3, ρ3, t2, _, _, R4, e5, fun F5 H5 R5 x5 => iteT ?_⟩
              split at e3
              · rename_i y t6 e6
                split at e3
                · rename_i hz
                  refine ⟨F5, ρ3, t4, _, _, R5, e6, fun yv F6 H6 R6 x6 k6 => ?_⟩
                  have x56 : Ext Γ.S F3 H' F6 H6 := x5.then x6 R6
                  obtain ⟨d1, d2⟩ := dH x56 R6
                  have k26 : DqA Γ.K F6 xs acc := (k2.mono x3.f).mono x56.f
                  refine ⟨xs, d1, by rw [k26.length]; exact hz, F6, t6, acc ++ [y], xs ++ [yv], ?_, ?_, upd_same, d2, k26.snoc k6, e3⟩
                  · have x16 := x23.then x56 R6
                    exact ⟨x16.f, fun b u z => by rw [upd_ne (ne_of_none z d2)]; exact x16.e b u z, fun b u z1 z2 => by rw [upd_ne (ne_of_none z2 hD)]; exact x16.h b u z1 z2, fun b u z1 z2 => x16.n b u z1 z2⟩
                  · have Rb : Rep Γ F6 H6 (wipe σ vs) (wipeR ρ vs) t6 := R3.ext x56 R6.inn R6.sF
                    exact { ex := fun b u z => by rw [upd_ne (ne_of_none z d2)]; exact Rb.ex b u z, inn := Γ.loc t6 H6 _ (fun b hb => upd_ne fun z : b = D => oldD.2 (z ▸ hb)) Rb.inn, sF := Rb.sF, step0 := Rb.step0,
                            step := fun b u n1 n2 n3 => by
                              obtain ⟨z1, z2⟩ := Rb.step b u n1 n2 n3
                              exact ⟨z1, by rw [upd_ne (fun z : b = D => by subst z; rw [oldD.1] at n3; cases n3)]; exact z2⟩
                            len := Rb.len
                            slots := fun j w hw => by
                              have s := Rb.slots j w hw
                              have s0 := (R1.wiped vs).slots j w hw
                              cases w with
                              | fro d => exact s
                              | own d =>
                                obtain ⟨u, z1, z2, z3⟩ := s
                                obtain ⟨u0, y1, y2, _⟩ := s0
                                rw [z1] at y1
                                cases y1
                                obtain ⟨o, ho⟩ := y2.there
                                exact ⟨u, z1, z2.mono (Same.refl _) (fun o' h => by rw [upd_ne (ne_of_none ho hD)]; exact h) z2.free, z3⟩
                              | bor d =>
                                obtain ⟨v, z1, z2⟩ := s
                                refine ⟨v, z1, ?_⟩
                                rcases z2 with z2 | ⟨u, o', e3', z2, z3, z4, z5⟩
                                · exact .inl z2
                                · exact .inr ⟨u, o', e3', z2.mono (Same.refl _) (fun o h => by rw [upd_ne (fun z : u = D => by subst z; rw [oldD.1] at z5; cases z5)]; exact h) z2.free, z3, z4, z5⟩
                              | tray _ => exact s
                              | kd d =>
                                obtain ⟨u, z1, z2, z3⟩ := s
                                obtain ⟨u0, y1, y2, _⟩ := s0
                                rw [z1] at y1
                                cases y1
                                obtain ⟨o, ho⟩ := y2.there
                                exact ⟨u, z1, z2.mono (Same.refl _) (fun o' h => by rw [upd_ne (ne_of_none ho hD)]; exact h) z2.free, z3⟩
                            sep := Rb.sep }
                · cases e3
              · cases e3
            · rename_i t4 e5
              refine ⟨F3, ρ3, t2, _, _, R4, e5, fun F5 H5 R5 x5 => iteF ?_⟩
              obtain ⟨d1, d2⟩ := dH x5 R5
              exact ⟨F5, t4, acc, xs, x23.then x5 R5, R3.ext x5 R5.inn R5.sF, d1, d2, (k2.mono x3.f).mono x5.f, e3⟩
            · cases e3
      · have e0 : i = items.length := by omega
        subst e0
        rw [List.drop_length] at e3
        cases e3
        refine .inl ⟨⟨us, .of hu, by rw [ku.length]; exact Nat.le_refl _⟩, ?_⟩
        have Rf : Rep Γ F2 H2 σ ρ t' := R1.ext x2 R2.inn R2.sF
        refine q D F2 H2 Rf (x1.then x2 Rf) ⟨⟨fD2, xs, hD2, k2⟩, old_none x1 R1 hD, oldD.1, oldD.2, fun j w hw hs => ?_⟩
        obtain ⟨u, z1, z2, _⟩ := R1.slots j _ hw
        rw [hs] at z1
        cases z1
        obtain ⟨o, ho⟩ := z2.there
        rw [hD] at ho
        cases ho
    · cases e
  · cases e
theorem pe_lcOD {elt iter tg : Expr} {ifs : List Expr} {scope : Scope} {own : List (Str × Nat)} (hK : X.K = Γ.K) (hc : X.calm = true) (hN : X.N.Nodup) (ho : PE X iter (tVar j0)) (ok : BlkOk X.N X.env.scope scope own)
    (hg : ∀ (s : Shared) (H : Hp) (C : Addr) (cl : List (Str × Addr)) (fp : List Addr), PG (X.blk s H scope (compEnvC scope cl C X.env) fp) tg (denG Γ (own.map (·.2)) g)) (ht : ∀ (s : Shared) (H : Hp) (C : Addr) (cl : List (Str × Addr)) (fp : List Addr), PTs (X.blk s H scope (compEnvC scope cl C X.env) fp) ifs (denT Γ tc))
    (he : ∀ (s : Shared) (H : Hp) (C : Addr) (cl : List (Str × Addr)) (fp : List Addr), PE (X.blk s H scope (compEnvC scope cl C X.env) fp) elt (den Γ fc)) (hs : ∀ x, foldedSetIterable iter X.env x = pure x := by intro _; rfl) :
    PE X (.ListComp elt [⟨tg, iter, ifs, 0⟩] scope pos) (denL Γ (mLcO j0 g tc fc (own.map (·.2)))) := pe_w (pe_lc hc hN (pi_list ho) ok hg ht he hs) (w_lcO hK)
end
section
variable {T : Type} {ρ : Env} {t : T} {Q : PyData → T → Prop} {g : PyData → Env → Option Env} {c : Env → T → Option (Bool × T)} {f : ME T} {vs : List Nat} {j0 : Nat}
/-- what holds of a comprehension over whatever items, holds over the list in the slot -/
theorem l_lcO {ds : List PyData} (h : (wipeR ρ vs)[j0]? = some (some (.own (.list ds)))) (hi : Eg (mLc (fun _ t => some (ds, t)) g c f vs) ρ t Q) : Eg (mLcO j0 g c f vs) ρ t Q := by
  obtain ⟨d, t2, e, q⟩ := hi
  refine ⟨d, t2, ?_, q⟩
  unfold mLcO
  rw [h]
  exact e
theorem i_const {ds : List PyData} {QL : List PyData → T → Prop} (q : QL ds t) : Eg (fun (_ : Env) (t : T) => some (ds, t)) ρ t QL := ⟨ds, t, rfl, q⟩
end
end Mi
namespace Mi.K10
open PySem L2

def top (i : Nat) : Stmt := PySem.Challenge.pw_carryladder_k10_whole_counts_of_machines.main.body.getD i (.Pass ⟨0, 0, 0, 0⟩)
/-- names of built-in things that the text leaves alone, constants -/
structure Blt (mg : Str → Option Value) : Prop where
  b_len : mg "len" = none
  b_zip : mg "zip" = none
  b_range : mg "range" = none
  b_tuple : mg "tuple" = none
  b_sum : mg "sum" = none
  b_abs : mg "abs" = none
  b_int : mg "int" = none
  b_list : mg "list" = none
  b_set : mg "set" = none
  b_sorted : mg "sorted" = none
  b_enumerate : mg "enumerate" = none
  b_repr : mg "repr" = none
  c_MAX_STATES : ∃ t, mg "MAX_STATES" = some (.int 24 t)

/-! ### _first_counts -/
abbrev s__first_counts : Stmt := top 5
def N__first_counts : List Str := ["rows"]
theorem sc__first_counts : FnScope N__first_counts ["rows"] (defScope s__first_counts) := ⟨rfl, rfl, rfl, by decide +kernel, rfl, by decide +kernel, by decide +kernel⟩
def m__first_counts : MS Unit :=
  (mRet (mBin addD (mKeep (mLst (mCons (mC (.int 1)) mNil))) (mBin mulD (mKeep (mLst (mCons (mC (.int 0)) mNil))) (mBin subD (mCall lenD (mCons (mV 0) mNil)) (mC (.int 1))))))
def f__first_counts : List PyData → Option PyData := mFun 1 [true] m__first_counts
theorem k__first_counts {P : Program} {w : World} {K : PySem.W.Frag} {mg : Str → Option Value} {base : Heap} {f : Addr} {fd : FuncData} (B : Blt mg) (F : Fun K "_first_counts" "_first_counts" s__first_counts f fd) (m : mg "_first_counts" = some (.ref f)) :
    Known P w K mg base 1 "_first_counts" s__first_counts f fd ["rows"] (spP K [true] f__first_counts) :=
  ⟨m, F, F.binds (ps := ["rows"]) fun _ _ _ _ _ _ us hl => match us, hl with | [_], _ => rfl,
    fn_pure F sc__first_counts rfl fun cdv A outer s H F0 E hg hr => (pss_oneD (ps_retD (pe_bin op_addD (pe_keep (pe_lstD (pa_consD pe_cI pa_nilD))) (pe_bin op_mulD (pe_keep (pe_lstD (pa_consD pe_cI pa_nilD))) (pe_bin op_subD (pe_bD call_lenDD (by rfl) B.b_len bt_len (pa_consD (pe_v (pv 0)) pa_nilD)) pe_cI)))))⟩

/-! ### _counts_behind -/
abbrev s__counts_behind : Stmt := top 6
def N__counts_behind : List Str := ["rows", "counts", "bits", "behind", "count", "row", "state", "bit"]
theorem sc__counts_behind : FnScope N__counts_behind ["rows", "counts", "bits"] (defScope s__counts_behind) := ⟨rfl, rfl, rfl, by decide +kernel, rfl, by decide +kernel, by decide +kernel⟩
def m__counts_behind : MS Unit :=
  (mSeq (mSet 3 (mNew (mRepL (mKeep (mLst (mCons (mC (.int 0)) mNil))) (mCall lenD (mCons (mV 0) mNil)))))
  (mSeq (mFor (mZip2 (mV 1) (mV 0)) (gT (gs1 (gN 4) (gs1 (gN 5) gs0)) 2) (mFor (mItems (mV 5)) (gT (gs1 (gN 6) (gs1 (gN 7) gs0)) 2) (mIfS (mTest (mBin inD (mV 7) (mV 2))) (mAugAt 3 addI (mV 6) (mV 4)) mSkip)))
  (mRet (mV 3))))
def f__counts_behind : List PyData → Option PyData := mFun 8 [true, true, true] m__counts_behind
theorem k__counts_behind {P : Program} {w : World} {K : PySem.W.Frag} {mg : Str → Option Value} {base : Heap} {f : Addr} {fd : FuncData} (B : Blt mg) (F : Fun K "_counts_behind" "_counts_behind" s__counts_behind f fd) (m : mg "_counts_behind" = some (.ref f)) :
    Known P w K mg base 1 "_counts_behind" s__counts_behind f fd ["rows", "counts", "bits"] (spP K [true, true, true] f__counts_behind) :=
  ⟨m, F, F.binds (ps := ["rows", "counts", "bits"]) fun _ _ _ _ _ _ us hl => match us, hl with | [_, _, _], _ => rfl,
    fn_pure F sc__counts_behind rfl fun cdv A outer s H F0 E hg hr => (pss_consD (ps_setD (i := 3) sc__counts_behind.nd rfl (Or.inl rfl) (pe_new (pe_repLD (pe_keep (pe_lstD (pa_consD pe_cI pa_nilD))) (pe_bD call_lenDD (by rfl) B.b_len bt_len (pa_consD (pe_v (pv 0)) pa_nilD)))))
  (pss_consD (ps_forD PassesOwn.never rfl (pi_zip2D rfl (by rfl) B.b_zip (pe_v (pv 1)) (pe_v (pv 0))) (pg_tp rfl rfl (pgs_1 (pg_nm (ks := [4, 5]) (by decide) (pg_name (i := 4) sc__counts_behind.nd rfl (Or.inl rfl))) (pgs_1 (pg_nm (ks := [4, 5]) (by decide) (pg_name (i := 5) sc__counts_behind.nd rfl (Or.inl rfl))) (pgs_0 (ks := [4, 5]))))) (pss_oneD (ps_forD PassesOwn.never rfl (pi_seqD rfl (pe_v (pv 5))) (pg_tp rfl rfl (pgs_1 (pg_nm (ks := [6, 7]) (by decide) (pg_name (i := 6) sc__counts_behind.nd rfl (Or.inl rfl))) (pgs_1 (pg_nm (ks := [6, 7]) (by decide) (pg_name (i := 7) sc__counts_behind.nd rfl (Or.inl rfl))) (pgs_0 (ks := [6, 7]))))) (pss_oneD (ps_ifD (pt_cmpD op_inD (pe_v (pv 7)) (pe_v (pv 2)) (by rfl)) (pss_oneD (ps_augAtD rfl (pv 3) (pe_v (pv 6)) (pe_v (pv 4)) ip_addD)) pss_nilD)))))
  (pss_oneD (ps_retD (pe_v (pv 3))))))⟩

/-! ### lots -/
abbrev s_lots : Stmt := top 1
def N_lots : List Str := ["machine", "width", "_", "rows", "counts"]
theorem sc_lots : FnScope N_lots ["machine", "width"] (defScope s_lots) := ⟨rfl, rfl, rfl, by decide +kernel, rfl, by decide +kernel, by decide +kernel⟩
def m_lots : MS Unit :=
  (mSeq (mAsg (mV 0) (gT (gs1 (gN 2) (gs1 (gN 3) gs0)) 2))
  (mSeq (mSet 4 (mRv (mCallP [true] f__first_counts (mCons (mV 3) mNil))))
  (mSeq (mFor (mRange1 (mCons (mV 1) mNil)) (gN 2) (mSet 4 (mRv (mCallP [true, true, true] f__counts_behind (mCons (mV 3) (mCons (mV 4) (mCons (mTup (mCons (mC (.int 0)) (mCons (mC (.int 1)) mNil))) mNil)))))))
  (mRet (mCall tupleD (mCons (mV 4) mNil))))))
def f_lots : List PyData → Option PyData := mFun 5 [true, true] m_lots
theorem k_lots {P : Program} {w : World} {K : PySem.W.Frag} {mg : Str → Option Value} {base : Heap} {f : Addr} {fd : FuncData} {a__first_counts : Addr} {fd__first_counts : FuncData} {a__counts_behind : Addr} {fd__counts_behind : FuncData} (B : Blt mg) (F : Fun K "lots" "lots" s_lots f fd) (m : mg "lots" = some (.ref f))
    (D__first_counts : Known P w K mg base 1 "_first_counts" s__first_counts a__first_counts fd__first_counts ["rows"] (spP K [true] f__first_counts))
    (D__counts_behind : Known P w K mg base 1 "_counts_behind" s__counts_behind a__counts_behind fd__counts_behind ["rows", "counts", "bits"] (spP K [true, true, true] f__counts_behind)) :
    Known P w K mg base 2 "lots" s_lots f fd ["machine", "width"] (spP K [true, true] f_lots) :=
  ⟨m, F, F.binds (ps := ["machine", "width"]) fun _ _ _ _ _ _ us hl => match us, hl with | [_, _], _ => rfl,
    fn_pure F sc_lots rfl fun cdv A outer s H F0 E hg hr => (pss_consD (ps_asgD (pe_v (pv 0)) (pg_tp rfl rfl (pgs_1 (pg_nm (ks := [2, 3]) (by decide) (pg_name (i := 2) sc_lots.nd rfl (Or.inl rfl))) (pgs_1 (pg_nm (ks := [2, 3]) (by decide) (pg_name (i := 3) sc_lots.nd rfl (Or.inl rfl))) (pgs_0 (ks := [2, 3]))))))
  (pss_consD (ps_setD (i := 4) sc_lots.nd rfl (Or.inl rfl) (pe_rv (pe_kP D__first_counts hg hr (by rfl) (pa_consD (pe_v (pv 3)) pa_nilD))))
  (pss_consD (ps_forD PassesOwn.never rfl (pi_range1D (by rfl) B.b_range (pa_consD (pe_v (pv 1)) pa_nilD)) (pg_nm (ks := [2]) (by decide) (pg_name (i := 2) sc_lots.nd rfl (Or.inl rfl))) (pss_oneD (ps_setD (i := 4) sc_lots.nd rfl (Or.inl rfl) (pe_rv (pe_kP D__counts_behind hg hr (by rfl) (pa_consD (pe_v (pv 3)) (pa_consD (pe_v (pv 4)) (pa_consD (pe_tupD (pa_consD pe_cI (pa_consD pe_cI pa_nilD))) pa_nilD))))))))
  (pss_oneD (ps_retD (pe_tyD call_tupleDD (by rfl) B.b_tuple bt_tuple (pa_consD (pe_v (pv 4)) pa_nilD)))))))⟩

/-! ### noughts -/
abbrev s_noughts : Stmt := top 2
def N_noughts : List Str := ["machine", "width", "_", "rows", "counts"]
theorem sc_noughts : FnScope N_noughts ["machine", "width"] (defScope s_noughts) := ⟨rfl, rfl, rfl, by decide +kernel, rfl, by decide +kernel, by decide +kernel⟩
def m_noughts : MS Unit :=
  (mSeq (mAsg (mV 0) (gT (gs1 (gN 2) (gs1 (gN 3) gs0)) 2))
  (mSeq (mSet 4 (mRv (mCallP [true] f__first_counts (mCons (mV 3) mNil))))
  (mSeq (mFor (mRange1 (mCons (mV 1) mNil)) (gN 2) (mSet 4 (mRv (mCallP [true, true, true] f__counts_behind (mCons (mV 3) (mCons (mV 4) (mCons (mTup (mCons (mC (.int 0)) mNil)) mNil)))))))
  (mRet (mCall sumD (mCons (mV 4) mNil))))))
def f_noughts : List PyData → Option PyData := mFun 5 [true, true] m_noughts
theorem k_noughts {P : Program} {w : World} {K : PySem.W.Frag} {mg : Str → Option Value} {base : Heap} {f : Addr} {fd : FuncData} {a__first_counts : Addr} {fd__first_counts : FuncData} {a__counts_behind : Addr} {fd__counts_behind : FuncData} (B : Blt mg) (F : Fun K "noughts" "noughts" s_noughts f fd) (m : mg "noughts" = some (.ref f))
    (D__first_counts : Known P w K mg base 1 "_first_counts" s__first_counts a__first_counts fd__first_counts ["rows"] (spP K [true] f__first_counts))
    (D__counts_behind : Known P w K mg base 1 "_counts_behind" s__counts_behind a__counts_behind fd__counts_behind ["rows", "counts", "bits"] (spP K [true, true, true] f__counts_behind)) :
    Known P w K mg base 2 "noughts" s_noughts f fd ["machine", "width"] (spP K [true, true] f_noughts) :=
  ⟨m, F, F.binds (ps := ["machine", "width"]) fun _ _ _ _ _ _ us hl => match us, hl with | [_, _], _ => rfl,
    fn_pure F sc_noughts rfl fun cdv A outer s H F0 E hg hr => (pss_consD (ps_asgD (pe_v (pv 0)) (pg_tp rfl rfl (pgs_1 (pg_nm (ks := [2, 3]) (by decide) (pg_name (i := 2) sc_noughts.nd rfl (Or.inl rfl))) (pgs_1 (pg_nm (ks := [2, 3]) (by decide) (pg_name (i := 3) sc_noughts.nd rfl (Or.inl rfl))) (pgs_0 (ks := [2, 3]))))))
  (pss_consD (ps_setD (i := 4) sc_noughts.nd rfl (Or.inl rfl) (pe_rv (pe_kP D__first_counts hg hr (by rfl) (pa_consD (pe_v (pv 3)) pa_nilD))))
  (pss_consD (ps_forD PassesOwn.never rfl (pi_range1D (by rfl) B.b_range (pa_consD (pe_v (pv 1)) pa_nilD)) (pg_nm (ks := [2]) (by decide) (pg_name (i := 2) sc_noughts.nd rfl (Or.inl rfl))) (pss_oneD (ps_setD (i := 4) sc_noughts.nd rfl (Or.inl rfl) (pe_rv (pe_kP D__counts_behind hg hr (by rfl) (pa_consD (pe_v (pv 3)) (pa_consD (pe_v (pv 4)) (pa_consD (pe_tupD (pa_consD pe_cI pa_nilD)) pa_nilD))))))))
  (pss_oneD (ps_retD (pe_bD (call_sumDD rfl) (by rfl) B.b_sum bt_sum (pa_consD (pe_v (pv 4)) pa_nilD)))))))⟩

/-! ### ones_at -/
abbrev s_ones_at : Stmt := top 3
def N_ones_at : List Str := ["machine", "i", "_", "rows"]
theorem sc_ones_at : FnScope N_ones_at ["machine", "i"] (defScope s_ones_at) := ⟨rfl, rfl, rfl, by decide +kernel, rfl, by decide +kernel, by decide +kernel⟩
def m_ones_at : MS Unit :=
  (mSeq (mAsg (mV 0) (gT (gs1 (gN 2) (gs1 (gN 3) gs0)) 2))
  (mRet (mCall sumD (mCons (mCallP [true, true, true] f__counts_behind (mCons (mV 3) (mCons (mCallP [true, true] f_lots (mCons (mV 0) (mCons (mV 1) mNil))) (mCons (mTup (mCons (mC (.int 1)) mNil)) mNil)))) mNil))))
def f_ones_at : List PyData → Option PyData := mFun 4 [true, true] m_ones_at
theorem k_ones_at {P : Program} {w : World} {K : PySem.W.Frag} {mg : Str → Option Value} {base : Heap} {f : Addr} {fd : FuncData} {a__counts_behind : Addr} {fd__counts_behind : FuncData} {a_lots : Addr} {fd_lots : FuncData} (B : Blt mg) (F : Fun K "ones_at" "ones_at" s_ones_at f fd) (m : mg "ones_at" = some (.ref f))
    (D__counts_behind : Known P w K mg base 1 "_counts_behind" s__counts_behind a__counts_behind fd__counts_behind ["rows", "counts", "bits"] (spP K [true, true, true] f__counts_behind))
    (D_lots : Known P w K mg base 2 "lots" s_lots a_lots fd_lots ["machine", "width"] (spP K [true, true] f_lots)) :
    Known P w K mg base 3 "ones_at" s_ones_at f fd ["machine", "i"] (spP K [true, true] f_ones_at) :=
  ⟨m, F, F.binds (ps := ["machine", "i"]) fun _ _ _ _ _ _ us hl => match us, hl with | [_, _], _ => rfl,
    fn_pure F sc_ones_at rfl fun cdv A outer s H F0 E hg hr => (pss_consD (ps_asgD (pe_v (pv 0)) (pg_tp rfl rfl (pgs_1 (pg_nm (ks := [2, 3]) (by decide) (pg_name (i := 2) sc_ones_at.nd rfl (Or.inl rfl))) (pgs_1 (pg_nm (ks := [2, 3]) (by decide) (pg_name (i := 3) sc_ones_at.nd rfl (Or.inl rfl))) (pgs_0 (ks := [2, 3]))))))
  (pss_oneD (ps_retD (pe_bD (call_sumDD rfl) (by rfl) B.b_sum bt_sum (pa_consD (pe_kP D__counts_behind hg hr (by rfl) (pa_consD (pe_v (pv 3)) (pa_consD (pe_kP D_lots hg hr (by rfl) (pa_consD (pe_v (pv 0)) (pa_consD (pe_v (pv 1)) pa_nilD))) (pa_consD (pe_tupD (pa_consD pe_cI pa_nilD)) pa_nilD)))) pa_nilD)))))⟩

/-! ### ones_in_all -/
abbrev s_ones_in_all : Stmt := top 4
def N_ones_in_all : List Str := ["machine", "width", "many", "rows", "counts", "ones", "_"]
theorem sc_ones_in_all : FnScope N_ones_in_all ["machine", "width"] (defScope s_ones_in_all) := ⟨rfl, rfl, rfl, by decide +kernel, rfl, by decide +kernel, by decide +kernel⟩
def m_ones_in_all : MS Unit :=
  (mSeq (mAsg (mV 0) (gT (gs1 (gN 2) (gs1 (gN 3) gs0)) 2))
  (mSeq (mSet 4 (mRv (mCallP [true] f__first_counts (mCons (mV 3) mNil))))
  (mSeq (mSet 5 (mRv (mC (.int 0))))
  (mSeq (mFor (mRange1 (mCons (mV 1) mNil)) (gN 6) (mSeq (mSet 5 (mRv (mBin addD (mBin shlD (mV 5) (mV 2)) (mCall sumD (mCons (mCallP [true, true, true] f__counts_behind (mCons (mV 3) (mCons (mV 4) (mCons (mTup (mCons (mC (.int 1)) mNil)) mNil)))) mNil)))))
  (mSet 4 (mRv (mCallP [true, true, true] f__counts_behind (mCons (mV 3) (mCons (mV 4) (mCons (mTup (mCons (mC (.int 0)) (mCons (mC (.int 1)) mNil))) mNil))))))))
  (mRet (mV 5))))))
def f_ones_in_all : List PyData → Option PyData := mFun 7 [true, true] m_ones_in_all
theorem k_ones_in_all {P : Program} {w : World} {K : PySem.W.Frag} {mg : Str → Option Value} {base : Heap} {f : Addr} {fd : FuncData} {a__first_counts : Addr} {fd__first_counts : FuncData} {a__counts_behind : Addr} {fd__counts_behind : FuncData} (B : Blt mg) (F : Fun K "ones_in_all" "ones_in_all" s_ones_in_all f fd) (m : mg "ones_in_all" = some (.ref f))
    (D__first_counts : Known P w K mg base 1 "_first_counts" s__first_counts a__first_counts fd__first_counts ["rows"] (spP K [true] f__first_counts))
    (D__counts_behind : Known P w K mg base 1 "_counts_behind" s__counts_behind a__counts_behind fd__counts_behind ["rows", "counts", "bits"] (spP K [true, true, true] f__counts_behind)) :
    Known P w K mg base 2 "ones_in_all" s_ones_in_all f fd ["machine", "width"] (spP K [true, true] f_ones_in_all) :=
  ⟨m, F, F.binds (ps := ["machine", "width"]) fun _ _ _ _ _ _ us hl => match us, hl with | [_, _], _ => rfl,
    fn_pure F sc_ones_in_all rfl fun cdv A outer s H F0 E hg hr => (pss_consD (ps_asgD (pe_v (pv 0)) (pg_tp rfl rfl (pgs_1 (pg_nm (ks := [2, 3]) (by decide) (pg_name (i := 2) sc_ones_in_all.nd rfl (Or.inl rfl))) (pgs_1 (pg_nm (ks := [2, 3]) (by decide) (pg_name (i := 3) sc_ones_in_all.nd rfl (Or.inl rfl))) (pgs_0 (ks := [2, 3]))))))
  (pss_consD (ps_setD (i := 4) sc_ones_in_all.nd rfl (Or.inl rfl) (pe_rv (pe_kP D__first_counts hg hr (by rfl) (pa_consD (pe_v (pv 3)) pa_nilD))))
  (pss_consD (ps_setD (i := 5) sc_ones_in_all.nd rfl (Or.inl rfl) (pe_rv pe_cI))
  (pss_consD (ps_forD PassesOwn.never rfl (pi_range1D (by rfl) B.b_range (pa_consD (pe_v (pv 1)) pa_nilD)) (pg_nm (ks := [6]) (by decide) (pg_name (i := 6) sc_ones_in_all.nd rfl (Or.inl rfl))) (pss_consD (ps_setD (i := 5) sc_ones_in_all.nd rfl (Or.inl rfl) (pe_rv (pe_bin op_addD (pe_bin op_shlD (pe_v (pv 5)) (pe_v (pv 2))) (pe_bD (call_sumDD rfl) (by rfl) B.b_sum bt_sum (pa_consD (pe_kP D__counts_behind hg hr (by rfl) (pa_consD (pe_v (pv 3)) (pa_consD (pe_v (pv 4)) (pa_consD (pe_tupD (pa_consD pe_cI pa_nilD)) pa_nilD)))) pa_nilD)))))
  (pss_oneD (ps_setD (i := 4) sc_ones_in_all.nd rfl (Or.inl rfl) (pe_rv (pe_kP D__counts_behind hg hr (by rfl) (pa_consD (pe_v (pv 3)) (pa_consD (pe_v (pv 4)) (pa_consD (pe_tupD (pa_consD pe_cI (pa_consD pe_cI pa_nilD))) pa_nilD)))))))))
  (pss_oneD (ps_retD (pe_v (pv 5))))))))⟩

/-! ### _with_states -/
abbrev s__with_states : Stmt := top 14
def N__with_states : List Str := ["row", "numbers", "state", "bit"]
theorem sc__with_states : FnScope N__with_states ["row", "numbers"] (defScope s__with_states) := ⟨rfl, rfl, rfl, by decide +kernel, rfl, by decide +kernel, by decide +kernel⟩
def m__with_states : MS Unit :=
  (mRet (mCall tupleD (mCons (mKeep (mLc (mItems (mV 0)) (gT (gs1 (gN 2) (gs1 (gN 3) gs0)) 2) mYes (mTup (mCons (mBin ixD (mV 1) (mV 2)) (mCons (mV 3) mNil))) [2, 3])) mNil)))
def f__with_states : List PyData → Option PyData := mFun 4 [true, true] m__with_states
theorem k__with_states {P : Program} {w : World} {K : PySem.W.Frag} {mg : Str → Option Value} {base : Heap} {f : Addr} {fd : FuncData} (B : Blt mg) (F : Fun K "_with_states" "_with_states" s__with_states f fd) (m : mg "_with_states" = some (.ref f)) :
    Known P w K mg base 1 "_with_states" s__with_states f fd ["row", "numbers"] (spP K [true, true] f__with_states) :=
  ⟨m, F, F.binds (ps := ["row", "numbers"]) fun _ _ _ _ _ _ us hl => match us, hl with | [_, _], _ => rfl,
    fn_pure F sc__with_states rfl fun cdv A outer s H F0 E hg hr => (pss_oneD (ps_retD (pe_tyD call_tupleDD (by rfl) B.b_tuple bt_tuple (pa_consD (pe_keep (pe_lcD (own := [("state", 2), ("bit", 3)]) rfl sc__with_states.nd (pi_seqD rfl (pe_v (pv 0))) (blkOk_by (own := [("state", 2), ("bit", 3)]) (N := N__with_states) (sc := defScope s__with_states) (by decide +kernel)) (fun _ _ _ _ _ => (pg_tp rfl rfl (pgs_1 (pg_nm (ks := [2, 3]) (by decide) (pg_name (i := 2) sc__with_states.nd rfl (Or.inl rfl))) (pgs_1 (pg_nm (ks := [2, 3]) (by decide) (pg_name (i := 3) sc__with_states.nd rfl (Or.inl rfl))) (pgs_0 (ks := [2, 3])))))) (fun _ _ _ _ _ => pts_nilD) (fun _ _ _ _ _ => (pe_tupD (pa_consD (pe_ixD (ix_D (hu_of hr)) (pe_v (pv 1)) (pe_v (pv 2)) (by intro _ _; rfl)) (pa_consD (pe_v (pv 3)) pa_nilD)))))) pa_nilD))))⟩

/-! ### _in_order -/
abbrev s__in_order : Stmt := top 13
def N__in_order : List Str := ["rows", "order", "numbers", "at", "row", "state", "_", "old"]
theorem sc__in_order : FnScope N__in_order ["rows"] (defScope s__in_order) := ⟨rfl, rfl, rfl, by decide +kernel, rfl, by decide +kernel, by decide +kernel⟩
def m__in_order : MS Unit :=
  (mSeq (mSet 1 (mNew (mLst (mCons (mC (.int 0)) mNil))))
  (mSeq (mSet 2 (mNew (mDict [.inl 0] (mCons (mC (.int 0)) mNil))))
  (mSeq (mSet 3 (mRv (mC (.int 0))))
  (mSeq (whileN (mTest (mBin ltD (mV 3) (mCall lenD (mCons (mV 1) mNil)))) (mSeq (mSet 4 (mRv (mBin ixD (mV 0) (mBin ixD (mV 1) (mV 3)))))
  (mSeq (mFor (mItems (mV 4)) (gT (gs1 (gN 5) (gs1 (gN 6) gs0)) 2) (mIfS (mTest (mBin notInDct (mV 5) (mV 2))) (mSeq (mDNew 2 (mV 5) (mCall lenD (mCons (mV 1) mNil)))
  (mApp 1 (mV 5))) mSkip))
  (mAug 3 addI (mC (.int 1))))) 100)
  (mRet (mCall tupleD (mCons (mKeep (mLcO 1 (gN 7) mYes (mCallP [true, true] f__with_states (mCons (mBin ixD (mV 0) (mV 7)) (mCons (mV 2) mNil))) [7])) mNil)))))))
def f__in_order : List PyData → Option PyData := mFun 8 [true] m__in_order
theorem k__in_order {P : Program} {w : World} {K : PySem.W.Frag} {mg : Str → Option Value} {base : Heap} {f : Addr} {fd : FuncData} {a__with_states : Addr} {fd__with_states : FuncData} (B : Blt mg) (F : Fun K "_in_order" "_in_order" s__in_order f fd) (m : mg "_in_order" = some (.ref f))
    (D__with_states : Known P w K mg base 1 "_with_states" s__with_states a__with_states fd__with_states ["row", "numbers"] (spP K [true, true] f__with_states)) :
    Known P w K mg base 2 "_in_order" s__in_order f fd ["rows"] (spP K [true] f__in_order) :=
  ⟨m, F, F.binds (ps := ["rows"]) fun _ _ _ _ _ _ us hl => match us, hl with | [_], _ => rfl,
    fn_pure F sc__in_order rfl fun cdv A outer s H F0 E hg hr => (pss_consD (ps_setD (i := 1) sc__in_order.nd rfl (Or.inl rfl) (pe_new (pe_lstD (pa_consD pe_cI pa_nilD))))
  (pss_consD (ps_setD (i := 2) sc__in_order.nd rfl (Or.inr rfl) (pe_new (pe_dictD (.int .nil) (.cons pe_cI .nil))))
  (pss_consD (ps_setD (i := 3) sc__in_order.nd rfl (Or.inl rfl) (pe_rv pe_cI))
  (pss_consD (ps_whileD 100 PassesOwn.never (pt_cmpD op_ltD (pe_v (pv 3)) (pe_bD call_lenDD (by rfl) B.b_len bt_len (pa_consD (pe_v (pv 1)) pa_nilD)) (nomark _)) (pss_consD (ps_setD (i := 4) sc__in_order.nd rfl (Or.inl rfl) (pe_rv (pe_ixD (ix_D (hu_of hr)) (pe_v (pv 0)) (pe_ixD (ix_D (hu_of hr)) (pe_v (pv 1)) (pe_v (pv 3)) (by intro _ _; rfl)) (by intro _ _; rfl))))
  (pss_consD (ps_forD PassesOwn.never rfl (pi_seqD rfl (pe_v (pv 4))) (pg_tp rfl rfl (pgs_1 (pg_nm (ks := [5, 6]) (by decide) (pg_name (i := 5) sc__in_order.nd rfl (Or.inl rfl))) (pgs_1 (pg_nm (ks := [5, 6]) (by decide) (pg_name (i := 6) sc__in_order.nd rfl (Or.inl rfl))) (pgs_0 (ks := [5, 6]))))) (pss_oneD (ps_ifD (pt_cmpD (op_notInDct (hu_of hr)) (pe_v (pv 5)) (pe_v (pv 2)) (by rfl)) (pss_consD (ps_dNewD (hu_of hr) (pv 2) (pe_v (pv 5)) (pe_bD call_lenDD (by rfl) B.b_len bt_len (pa_consD (pe_v (pv 1)) pa_nilD)))
  (pss_oneD (ps_appD (pv 1) (pe_v (pv 5))))) pss_nilD)))
  (pss_oneD (ps_augD (i := 3) sc__in_order.nd rfl (Or.inl rfl) pe_cI ip_addD)))))
  (pss_oneD (ps_retD (pe_tyD call_tupleDD (by rfl) B.b_tuple bt_tuple (pa_consD (pe_keep (pe_lcOD (own := [("old", 7)]) rfl rfl sc__in_order.nd (pv 1) (blkOk_by (own := [("old", 7)]) (N := N__in_order) (sc := defScope s__in_order) (by decide +kernel)) (fun _ _ _ _ _ => (pg_nm (ks := [7]) (by decide) (pg_name (i := 7) sc__in_order.nd rfl (Or.inl rfl)))) (fun _ _ _ _ _ => pts_nilD) (fun _ _ _ _ _ => (pe_kP D__with_states hg hr (by rfl) (pa_consD (pe_ixD (ix_D (hu_of hr)) (pe_v (pv 0)) (pe_v (pv 7)) (by intro _ _; rfl)) (pa_consD (pe_v (pv 2)) pa_nilD)))))) pa_nilD))))))))⟩

/-! ### _merged -/
abbrev s__merged : Stmt := top 16
def N__merged : List Str := ["rows", "classes", "merged", "row", "own"]
theorem sc__merged : FnScope N__merged ["rows", "classes"] (defScope s__merged) := ⟨rfl, rfl, rfl, by decide +kernel, rfl, by decide +kernel, by decide +kernel⟩
def m__merged : MS Unit :=
  (mSeq (mSet 2 (mNew (mLst mNil)))
  (mSeq (mFor (mZip3 (mV 0) (mV 1)) (gT (gs1 (gN 3) (gs1 (gN 4) gs0)) 2) (mIfS (mTest (mBin eqD (mV 4) (mCall lenD (mCons (mV 2) mNil)))) (mApp 2 (mCallP [true, true] f__with_states (mCons (mV 3) (mCons (mV 1) mNil)))) mSkip))
  (mRet (mV 2))))
def f__merged : List PyData → Option PyData := mFun 5 [true, true] m__merged
theorem k__merged {P : Program} {w : World} {K : PySem.W.Frag} {mg : Str → Option Value} {base : Heap} {f : Addr} {fd : FuncData} {a__with_states : Addr} {fd__with_states : FuncData} (B : Blt mg) (F : Fun K "_merged" "_merged" s__merged f fd) (m : mg "_merged" = some (.ref f))
    (D__with_states : Known P w K mg base 1 "_with_states" s__with_states a__with_states fd__with_states ["row", "numbers"] (spP K [true, true] f__with_states)) :
    Known P w K mg base 2 "_merged" s__merged f fd ["rows", "classes"] (spP K [true, true] f__merged) :=
  ⟨m, F, F.binds (ps := ["rows", "classes"]) fun _ _ _ _ _ _ us hl => match us, hl with | [_, _], _ => rfl,
    fn_pure F sc__merged rfl fun cdv A outer s H F0 E hg hr => (pss_consD (ps_setD (i := 2) sc__merged.nd rfl (Or.inl rfl) (pe_new (pe_lstD pa_nilD)))
  (pss_consD (ps_forD PassesOwn.never rfl (pi_zip3D rfl (by rfl) B.b_zip (pe_v (pv 0)) (pe_v (pv 1))) (pg_tp rfl rfl (pgs_1 (pg_nm (ks := [3, 4]) (by decide) (pg_name (i := 3) sc__merged.nd rfl (Or.inl rfl))) (pgs_1 (pg_nm (ks := [3, 4]) (by decide) (pg_name (i := 4) sc__merged.nd rfl (Or.inl rfl))) (pgs_0 (ks := [3, 4]))))) (pss_oneD (ps_ifD (pt_cmpD (op_eqDD (hu64 hr)) (pe_v (pv 4)) (pe_bD call_lenDD (by rfl) B.b_len bt_len (pa_consD (pe_v (pv 2)) pa_nilD)) (nomark _)) (pss_oneD (ps_appD (pv 2) (pe_kP D__with_states hg hr (by rfl) (pa_consD (pe_v (pv 3)) (pa_consD (pe_v (pv 1)) pa_nilD))))) pss_nilD)))
  (pss_oneD (ps_retD (pe_v (pv 2))))))⟩

/-! ### _classes -/
abbrev s__classes : Stmt := top 15
def N__classes : List Str := ["rows", "classes", "told", "finer", "row"]
theorem sc__classes : FnScope N__classes ["rows"] (defScope s__classes) := ⟨rfl, rfl, rfl, by decide +kernel, rfl, by decide +kernel, by decide +kernel⟩
def m__classes : MS Unit :=
  (mSeq (mSet 1 (mRv (mBin mulD (mKeep (mLst (mCons (mC (.int 0)) mNil))) (mCall lenD (mCons (mV 0) mNil)))))
  (whileN (mTest (mC (.bool true))) (mSeq (mSet 2 mKNew0)
  (mSeq (mSet 3 (mNew (mLst mNil)))
  (mSeq (mFor (mItems (mV 0)) (gN 4) (mAppK 3 2 (mKSetd 2 (mCallP [true, true] f__with_states (mCons (mV 4) (mCons (mV 1) mNil))) (mKLen 2))))
  (mSeq (mIfS (mTest (mBin gtD (mKLen 2) (mC (.int 24)))) mStop mSkip)
  (mSeq (mIfS (mTest (mBin eqD (mV 3) (mV 1))) (mRet (mV 1)) mSkip)
  (mFz 3 (mSet 1 (mRv (mV 3))))))))) 700))
def f__classes : List PyData → Option PyData := mFun 5 [true] m__classes
theorem k__classes {P : Program} {w : World} {K : PySem.W.Frag} {mg : Str → Option Value} {base : Heap} {f : Addr} {fd : FuncData} {a__with_states : Addr} {fd__with_states : FuncData} (B : Blt mg) (F : Fun K "_classes" "_classes" s__classes f fd) (m : mg "_classes" = some (.ref f))
    (D__with_states : Known P w K mg base 1 "_with_states" s__with_states a__with_states fd__with_states ["row", "numbers"] (spP K [true, true] f__with_states)) :
    Known P w K mg base 2 "_classes" s__classes f fd ["rows"] (spP K [true] f__classes) :=
  ⟨m, F, F.binds (ps := ["rows"]) fun _ _ _ _ _ _ us hl => match us, hl with | [_], _ => rfl,
    fn_pure F sc__classes rfl fun cdv A outer s H F0 E hg hr => (pss_consD (ps_setD (i := 1) sc__classes.nd rfl (Or.inl rfl) (pe_rv (pe_bin op_mulD (pe_keep (pe_lstD (pa_consD pe_cI pa_nilD))) (pe_bD call_lenDD (by rfl) B.b_len bt_len (pa_consD (pe_v (pv 0)) pa_nilD)))))
  (pss_oneD (ps_whileD 700 PassesOwn.never (pt_b pe_cB) (pss_consD (ps_setD (i := 2) sc__classes.nd rfl (Or.inl rfl) (pe_kNew0 rfl rfl))
  (pss_consD (ps_setD (i := 3) sc__classes.nd rfl (Or.inl rfl) (pe_new (pe_lstD pa_nilD)))
  (pss_consD (ps_forD PassesOwn.never rfl (pi_seqD rfl (pe_v (pv 0))) (pg_nm (ks := [4]) (by decide) (pg_name (i := 4) sc__classes.nd rfl (Or.inl rfl))) (pss_oneD (ps_appK (pv 3) (pe_kSetd (hu64 hr) rfl rfl (pv 2) (pe_kP D__with_states hg hr (by rfl) (pa_consD (pe_v (pv 4)) (pa_consD (pe_v (pv 1)) pa_nilD))) (pe_kLen rfl rfl (by rfl) B.b_len (pv 2)) ⟨by rfl, by rfl, by rfl, by rfl⟩))))
  (pss_consD (ps_ifD (pt_cmpD op_gtD (pe_kLen rfl rfl (by rfl) B.b_len (pv 2)) (pe_cG (v := .int 24) (by rfl) (B.c_MAX_STATES).choose_spec ⟨_, rfl⟩ fun _ => .int _) (nomark _)) (pss_oneD ps_stopD) pss_nilD)
  (pss_consD (ps_ifD (pt_cmpD (op_eqDD (hu64 hr)) (pe_v (pv 3)) (pe_v (pv 1)) (nomark _)) (pss_oneD (ps_retD (pe_v (pv 1)))) pss_nilD)
  (pss_oneD (ps_fz 3 (ps_setD (i := 1) sc__classes.nd rfl (Or.inl rfl) (pe_rv (pe_v (pv 3))))))))))))))⟩

/-! ### least -/
abbrev s_least : Stmt := top 12
def N_least : List Str := ["machine", "many", "rows", "reached"]
theorem sc_least : FnScope N_least ["machine"] (defScope s_least) := ⟨rfl, rfl, rfl, by decide +kernel, rfl, by decide +kernel, by decide +kernel⟩
def m_least : MS Unit :=
  (mSeq (mAsg (mV 0) (gT (gs1 (gN 1) (gs1 (gN 2) gs0)) 2))
  (mSeq (mSet 3 (mRv (mCallP [true] f__in_order (mCons (mV 2) mNil))))
  (mRet (mTup (mCons (mV 1) (mCons (mCallP [true] f__in_order (mCons (mCallP [true, true] f__merged (mCons (mV 3) (mCons (mCallP [true] f__classes (mCons (mV 3) mNil)) mNil))) mNil)) mNil))))))
def f_least : List PyData → Option PyData := mFun 4 [true] m_least
theorem k_least {P : Program} {w : World} {K : PySem.W.Frag} {mg : Str → Option Value} {base : Heap} {f : Addr} {fd : FuncData} {a__in_order : Addr} {fd__in_order : FuncData} {a__merged : Addr} {fd__merged : FuncData} {a__classes : Addr} {fd__classes : FuncData} (B : Blt mg) (F : Fun K "least" "least" s_least f fd) (m : mg "least" = some (.ref f))
    (D__in_order : Known P w K mg base 2 "_in_order" s__in_order a__in_order fd__in_order ["rows"] (spP K [true] f__in_order))
    (D__merged : Known P w K mg base 2 "_merged" s__merged a__merged fd__merged ["rows", "classes"] (spP K [true, true] f__merged))
    (D__classes : Known P w K mg base 2 "_classes" s__classes a__classes fd__classes ["rows"] (spP K [true] f__classes)) :
    Known P w K mg base 3 "least" s_least f fd ["machine"] (spP K [true] f_least) :=
  ⟨m, F, F.binds (ps := ["machine"]) fun _ _ _ _ _ _ us hl => match us, hl with | [_], _ => rfl,
    fn_pure F sc_least rfl fun cdv A outer s H F0 E hg hr => (pss_consD (ps_asgD (pe_v (pv 0)) (pg_tp rfl rfl (pgs_1 (pg_nm (ks := [1, 2]) (by decide) (pg_name (i := 1) sc_least.nd rfl (Or.inl rfl))) (pgs_1 (pg_nm (ks := [1, 2]) (by decide) (pg_name (i := 2) sc_least.nd rfl (Or.inl rfl))) (pgs_0 (ks := [1, 2]))))))
  (pss_consD (ps_setD (i := 3) sc_least.nd rfl (Or.inl rfl) (pe_rv (pe_kP D__in_order hg hr (by rfl) (pa_consD (pe_v (pv 2)) pa_nilD))))
  (pss_oneD (ps_retD (pe_tupD (pa_consD (pe_v (pv 1)) (pa_consD (pe_kP D__in_order hg hr (by rfl) (pa_consD (pe_kP D__merged hg hr (by rfl) (pa_consD (pe_v (pv 3)) (pa_consD (pe_kP D__classes hg hr (by rfl) (pa_consD (pe_v (pv 3)) pa_nilD)) pa_nilD))) pa_nilD)) pa_nilD)))))))⟩

/-! ### _law_tray -/
abbrev s__law_tray : Stmt := top 18
def N__law_tray : List Str := ["script", "cells", "stirred", "cell"]
theorem sc__law_tray : FnScope N__law_tray ["script"] (defScope s__law_tray) := ⟨rfl, rfl, rfl, by decide +kernel, rfl, by decide +kernel, by decide +kernel⟩
def m__law_tray (ns : List Int) : MS Unit :=
  (mSeq (mPar 1 2 (mConsV (mRv (mKeep (mLc (mItems (mKeep (mScrCut ns 60 (mV 0)))) (gN 3) mYes (mBin addD (mBin mulD (mC (.int 2)) (mCall absD (mCons (mV 3) mNil))) (mCall intD (mCons (mBin ltD (mV 3) (mC (.int 0))) mNil))) [3]))) (mConsV (mRv (mBin addD (mC (.int 31013)) (mBin mulD (mC (.int 5)) (mScrLen ns (mV 0))))) mNilV)))
  (mSeq (mFor (mItems (mV 1)) (gN 3) (mSet 2 (mRv (mBin modD (mCall intD (mCons (mBin addD (mBin addD (mBin mulD (mV 2) (mC (.int 39373))) (mV 3)) (mC (.int 3))) mNil)) (mC (.int 4294967291))))))
  (mRet (mKeep (mDict [.inr "great", .inr "stirred", .inr "turn"] (mCons (mKeep (mLc (mItems (mV 1)) (gN 3) (mTest (mBin geD (mV 3) (mBin powD (mC (.int 10)) (mC (.int 15))))) (mV 3) [3])) (mCons (mV 2) (mCons (mC (.int 0)) mNil))))))))
def f__law_tray : List Int → Option PyData := mFunS 4 m__law_tray
theorem k__law_tray {P : Program} {w : World} {K : PySem.W.Frag} {mg : Str → Option Value} {base : Heap} {f : Addr} {fd : FuncData} (B : Blt mg) (F : Fun K "_law_tray" "_law_tray" s__law_tray f fd) (m : mg "_law_tray" = some (.ref f)) :
    Known P w K mg base 1 "_law_tray" s__law_tray f fd ["script"] (spS K f__law_tray) :=
  ⟨m, F, F.binds (ps := ["script"]) fun _ _ _ _ _ _ us hl => match us, hl with | [_], _ => rfl,
    fn_script F sc__law_tray fun ns a cdv A outer s H E hg hr hS hz => (pss_consD (ps_parD (i := 1) (j := 2) rfl sc__law_tray.nd rfl rfl (by decide) rfl rfl (pa_consV (pe_rv (pe_keep (pe_lcD (own := [("cell", 3)]) rfl sc__law_tray.nd (pi_seqD rfl (pe_keep (pe_scrCut rfl hS hz (pe_v (pv 0))))) (blkOk_by (own := [("cell", 3)]) (N := N__law_tray) (sc := defScope s__law_tray) (by decide +kernel)) (fun _ _ _ _ _ => (pg_nm (ks := [3]) (by decide) (pg_name (i := 3) sc__law_tray.nd rfl (Or.inl rfl)))) (fun _ _ _ _ _ => pts_nilD) (fun _ _ _ _ _ => (pe_bin op_addD (pe_bin op_mulD pe_cI (pe_bD call_absDD (by rfl) B.b_abs bt_abs (pa_consD (pe_v (pv 3)) pa_nilD))) (pe_tyD call_intDD (by rfl) B.b_int bt_int (pa_consD (pe_cmpD op_ltD (pe_v (pv 3)) pe_cI (nomark _)) pa_nilD))))))) (pa_consV (pe_rv (pe_bin op_addD pe_cI (pe_bin op_mulD pe_cI (pe_scrLen rfl hS rfl B.b_len (pe_v (pv 0)))))) pa_nilV)) rfl)
  (pss_consD (ps_forD PassesOwn.never rfl (pi_seqD rfl (pe_v (pv 1))) (pg_nm (ks := [3]) (by decide) (pg_name (i := 3) sc__law_tray.nd rfl (Or.inl rfl))) (pss_oneD (ps_setD (i := 2) sc__law_tray.nd rfl (Or.inl rfl) (pe_rv (pe_bin op_modD (pe_tyD call_intDD (by rfl) B.b_int bt_int (pa_consD (pe_bin op_addD (pe_bin op_addD (pe_bin op_mulD (pe_v (pv 2)) pe_cI) (pe_v (pv 3))) pe_cI) pa_nilD)) pe_cI)))))
  (pss_oneD (ps_retD (pe_keep (pe_dictD (.str (.str (.str .nil))) (.cons (pe_keep (pe_lcD (own := [("cell", 3)]) rfl sc__law_tray.nd (pi_seqD rfl (pe_v (pv 1))) (blkOk_by (own := [("cell", 3)]) (N := N__law_tray) (sc := defScope s__law_tray) (by decide +kernel)) (fun _ _ _ _ _ => (pg_nm (ks := [3]) (by decide) (pg_name (i := 3) sc__law_tray.nd rfl (Or.inl rfl)))) (fun _ _ _ _ _ => (pts_oneD (pt_cmpD op_geD (pe_v (pv 3)) (pe_bin op_powD pe_cI pe_cI) (nomark _)))) (fun _ _ _ _ _ => (pe_v (pv 3))))) (.cons (pe_v (pv 2)) (.cons pe_cI .nil)))))))))⟩

/-! ### _law_draw -/
abbrev s__law_draw : Stmt := top 19
def N__law_draw : List Str := ["tray", "many", "found", "cell"]
theorem sc__law_draw : FnScope N__law_draw ["tray", "many"] (defScope s__law_draw) := ⟨rfl, rfl, rfl, by decide +kernel, rfl, by decide +kernel, by decide +kernel⟩
def m__law_draw : MS Tr :=
  (mSeq (mIfS (mTest (mBin ltD (mV 1) (mC (.int 2)))) (mRet (mC (.int 0))) mSkip)
  (mSeq (mIfS (mFarNe (mFar (mV 0))) (mSeq (mSet 3 (mRv (mPop0 (mFar (mV 0)))))
  (mSeq (mIfS (mTest (mBin geD (mV 3) (mV 1))) (mIns0 (mFar (mV 0)) (mBin fdivD (mV 3) (mV 1))) mSkip)
  (mRet (mBin modD (mCall intD (mCons (mV 3) mNil)) (mV 1))))) mSkip)
  (mSeq (mTput "great" "turn" (mV 0) (mBin addD (mTget "great" "turn" (mV 0)) (mC (.int 1))))
  (mSeq (mSet 2 (mRv (mBin modD (mCall intD (mCons (mBin addD (mTget "great" "stirred" (mV 0)) (mBin mulD (mC (.int 2654435761)) (mTget "great" "turn" (mV 0)))) mNil)) (mC (.int 4294967279)))))
  (mSeq (mSet 2 (mRv (mBin modD (mCall intD (mCons (mBin addD (mBin addD (mBin mulD (mV 2) (mV 2)) (mBin mulD (mC (.int 48271)) (mTget "great" "turn" (mV 0)))) (mC (.int 21))) mNil)) (mC (.int 4294967291)))))
  (mSeq (mSet 2 (mRv (mBin modD (mCall intD (mCons (mBin addD (mBin mulD (mV 2) (mV 2)) (mTget "great" "stirred" (mV 0))) mNil)) (mC (.int 4294967231)))))
  (mRet (mBin modD (mCall intD (mCons (mBin fdivD (mV 2) (mC (.int 512))) mNil)) (mV 1)))))))))
def f__law_draw : Tr → List PyData → Option (PyData × Tr) := mFunT 4 [true] m__law_draw
theorem k__law_draw {P : Program} {w : World} {K : PySem.W.Frag} {mg : Str → Option Value} {base : Heap} {f : Addr} {fd : FuncData} (B : Blt mg) (F : Fun K "_law_draw" "_law_draw" s__law_draw f fd) (m : mg "_law_draw" = some (.ref f)) :
    Known P w K mg base 1 "_law_draw" s__law_draw f fd ["tray", "many"] (spT K "great" [true] f__law_draw) :=
  ⟨m, F, F.binds (ps := ["tray", "many"]) fun _ _ _ _ _ _ us hl => match us, hl with | [_, _], _ => rfl,
    fn_tray F sc__law_draw rfl (by decide) fun ta g cdv A outer s H F0 E hg hr => (pss_consD (ps_ifD (pt_cmpD op_ltD (pe_v (pv 1)) pe_cI (nomark _)) (pss_oneD (ps_retD pe_cI)) pss_nilD)
  (pss_consD (ps_ifD (pt_farNe (hu64 hr) rfl (pe_far (hu_of hr) (pe_v (pv 0)))) (pss_consD (ps_setD (i := 3) sc__law_draw.nd rfl (Or.inl rfl) (pe_rv (pe_pop0 rfl (pe_far (hu_of hr) (pe_v (pv 0))))))
  (pss_consD (ps_ifD (pt_cmpD op_geD (pe_v (pv 3)) (pe_v (pv 1)) (nomark _)) (pss_oneD (ps_ins0 (pe_far (hu_of hr) (pe_v (pv 0))) (pe_bin op_fdivD (pe_v (pv 3)) (pe_v (pv 1))))) pss_nilD)
  (pss_oneD (ps_retD (pe_bin op_modD (pe_tyD call_intDD (by rfl) B.b_int bt_int (pa_consD (pe_v (pv 3)) pa_nilD)) (pe_v (pv 1))))))) pss_nilD)
  (pss_consD (ps_tput (hu_of hr) (pe_v (pv 0)) (pe_bin op_addD (pe_tget (hu_of hr) (pe_v (pv 0))) pe_cI))
  (pss_consD (ps_setD (i := 2) sc__law_draw.nd rfl (Or.inl rfl) (pe_rv (pe_bin op_modD (pe_tyD call_intDD (by rfl) B.b_int bt_int (pa_consD (pe_bin op_addD (pe_tget (hu_of hr) (pe_v (pv 0))) (pe_bin op_mulD pe_cI (pe_tget (hu_of hr) (pe_v (pv 0))))) pa_nilD)) pe_cI)))
  (pss_consD (ps_setD (i := 2) sc__law_draw.nd rfl (Or.inl rfl) (pe_rv (pe_bin op_modD (pe_tyD call_intDD (by rfl) B.b_int bt_int (pa_consD (pe_bin op_addD (pe_bin op_addD (pe_bin op_mulD (pe_v (pv 2)) (pe_v (pv 2))) (pe_bin op_mulD pe_cI (pe_tget (hu_of hr) (pe_v (pv 0))))) pe_cI) pa_nilD)) pe_cI)))
  (pss_consD (ps_setD (i := 2) sc__law_draw.nd rfl (Or.inl rfl) (pe_rv (pe_bin op_modD (pe_tyD call_intDD (by rfl) B.b_int bt_int (pa_consD (pe_bin op_addD (pe_bin op_mulD (pe_v (pv 2)) (pe_v (pv 2))) (pe_tget (hu_of hr) (pe_v (pv 0)))) pa_nilD)) pe_cI)))
  (pss_oneD (ps_retD (pe_bin op_modD (pe_tyD call_intDD (by rfl) B.b_int bt_int (pa_consD (pe_bin op_fdivD (pe_v (pv 2)) pe_cI) pa_nilD)) (pe_v (pv 1)))))))))))⟩

/-! ### _law_pick -/
abbrev s__law_pick : Stmt := top 20
def N__law_pick : List Str := ["tray", "items"]
theorem sc__law_pick : FnScope N__law_pick ["tray", "items"] (defScope s__law_pick) := ⟨rfl, rfl, rfl, by decide +kernel, rfl, by decide +kernel, by decide +kernel⟩
def m__law_pick : MS Tr :=
  (mRet (mBin ixD (mV 1) (mCallT [true] f__law_draw (mCons (mV 0) (mCons (mCall lenD (mCons (mV 1) mNil)) mNil)))))
def f__law_pick : Tr → List PyData → Option (PyData × Tr) := mFunT 2 [true] m__law_pick
theorem k__law_pick {P : Program} {w : World} {K : PySem.W.Frag} {mg : Str → Option Value} {base : Heap} {f : Addr} {fd : FuncData} {a__law_draw : Addr} {fd__law_draw : FuncData} (B : Blt mg) (F : Fun K "_law_pick" "_law_pick" s__law_pick f fd) (m : mg "_law_pick" = some (.ref f))
    (D__law_draw : Known P w K mg base 1 "_law_draw" s__law_draw a__law_draw fd__law_draw ["tray", "many"] (spT K "great" [true] f__law_draw)) :
    Known P w K mg base 2 "_law_pick" s__law_pick f fd ["tray", "items"] (spT K "great" [true] f__law_pick) :=
  ⟨m, F, F.binds (ps := ["tray", "items"]) fun _ _ _ _ _ _ us hl => match us, hl with | [_, _], _ => rfl,
    fn_tray F sc__law_pick rfl (by decide) fun ta g cdv A outer s H F0 E hg hr => (pss_oneD (ps_retD (pe_ixD (ix_D (hu_of hr)) (pe_v (pv 1)) (pe_kT D__law_draw hg hr (by rfl) (pa_consD (pe_v (pv 0)) (pa_consD (pe_bD call_lenDD (by rfl) B.b_len bt_len (pa_consD (pe_v (pv 1)) pa_nilD)) pa_nilD))) (by intro _ _; rfl))))⟩

/-! ### _law_mixed -/
abbrev s__law_mixed : Stmt := top 21
def N__law_mixed : List Str := ["tray", "items", "left", "found"]
theorem sc__law_mixed : FnScope N__law_mixed ["tray", "items"] (defScope s__law_mixed) := ⟨rfl, rfl, rfl, by decide +kernel, rfl, by decide +kernel, by decide +kernel⟩
def m__law_mixed : MS Tr :=
  (mSeq (mPar 2 3 (mConsV (mNew (mListL (mCons (mV 1) mNil))) (mConsV (mNew (mLst mNil)) mNilV)))
  (mSeq (whileN (mTest (mBin neD (mV 2) (mKeep (mLst mNil)))) (mAppP 3 2 (mPopAt 2 (mCallT [true] f__law_draw (mCons (mV 0) (mCons (mCall lenD (mCons (mV 2) mNil)) mNil))))) 100)
  (mRet (mV 3))))
def f__law_mixed : Tr → List PyData → Option (PyData × Tr) := mFunT 4 [true] m__law_mixed
theorem k__law_mixed {P : Program} {w : World} {K : PySem.W.Frag} {mg : Str → Option Value} {base : Heap} {f : Addr} {fd : FuncData} {a__law_draw : Addr} {fd__law_draw : FuncData} (B : Blt mg) (F : Fun K "_law_mixed" "_law_mixed" s__law_mixed f fd) (m : mg "_law_mixed" = some (.ref f))
    (D__law_draw : Known P w K mg base 1 "_law_draw" s__law_draw a__law_draw fd__law_draw ["tray", "many"] (spT K "great" [true] f__law_draw)) :
    Known P w K mg base 2 "_law_mixed" s__law_mixed f fd ["tray", "items"] (spT K "great" [true] f__law_mixed) :=
  ⟨m, F, F.binds (ps := ["tray", "items"]) fun _ _ _ _ _ _ us hl => match us, hl with | [_, _], _ => rfl,
    fn_tray F sc__law_mixed rfl (by decide) fun ta g cdv A outer s H F0 E hg hr => (pss_consD (ps_parD (i := 2) (j := 3) rfl sc__law_mixed.nd rfl rfl (by decide) rfl rfl (pa_consV (pe_new (pe_listL rfl (by rfl) B.b_list bt_list (pa_consD (pe_v (pv 1)) pa_nilD))) (pa_consV (pe_new (pe_lstD pa_nilD)) pa_nilV)) rfl)
  (pss_consD (ps_whileD 100 PassesOwn.never (pt_cmpD (op_neDD (hu64 hr)) (pe_v (pv 2)) (pe_keep (pe_lstD pa_nilD)) (nomark _)) (pss_oneD (ps_appP (pv 3) (pe_popAtD (pv 2) (pe_kT D__law_draw hg hr (by rfl) (pa_consD (pe_v (pv 0)) (pa_consD (pe_bD call_lenDD (by rfl) B.b_len bt_len (pa_consD (pe_v (pv 2)) pa_nilD)) pa_nilD)))))))
  (pss_oneD (ps_retD (pe_v (pv 3))))))⟩

/-! ### _law_machine -/
abbrev s__law_machine : Stmt := top 22
def N__law_machine : List Str := ["tray", "size", "many", "rows", "way", "state", "row", "letter", "goal"]
theorem sc__law_machine : FnScope N__law_machine ["tray", "size", "many"] (defScope s__law_machine) := ⟨rfl, rfl, rfl, by decide +kernel, rfl, by decide +kernel, by decide +kernel⟩
def m__law_machine : MS Tr :=
  (mSeq (mPar 3 4 (mConsV (mNew (mLst mNil)) (mConsV (mRv (mCallT [true] f__law_draw (mCons (mV 0) (mCons (mC (.int 3)) mNil)))) mNilV)))
  (mSeq (mFor (mRange1 (mCons (mV 1) mNil)) (gN 5) (mSeq (mSet 6 (mNew (mLst mNil)))
  (mSeq (mFor (mRange1 (mCons (mBin shlD (mC (.int 1)) (mV 2)) mNil)) (gN 7) (mSeq (mSet 8 (mRv (mCallT [true] f__law_draw (mCons (mV 0) (mCons (mV 1) mNil)))))
  (mSeq (mIfS (mAnd (mTest (mBin eqD (mV 4) (mC (.int 1)))) (mTest (mBin gtD (mCallT [true] f__law_draw (mCons (mV 0) (mCons (mC (.int 3)) mNil))) (mC (.int 0))))) (mSet 8 (mRv (mCallT [true] f__law_pick (mCons (mV 0) (mCons (mKeep (mLst (mCons (mV 5) (mCons (mBin modD (mCall intD (mCons (mBin addD (mV 5) (mC (.int 1))) mNil)) (mV 1)) mNil)))) mNil))))) mSkip)
  (mApp 6 (mTup (mCons (mV 8) (mCons (mCallT [true] f__law_draw (mCons (mV 0) (mCons (mC (.int 2)) mNil))) mNil)))))))
  (mApp 3 (mCall tupleD (mCons (mV 6) mNil))))))
  (mRet (mTup (mCons (mV 2) (mCons (mCall tupleD (mCons (mV 3) mNil)) mNil))))))
def f__law_machine : Tr → List PyData → Option (PyData × Tr) := mFunT 9 [true, true] m__law_machine
theorem k__law_machine {P : Program} {w : World} {K : PySem.W.Frag} {mg : Str → Option Value} {base : Heap} {f : Addr} {fd : FuncData} {a__law_draw : Addr} {fd__law_draw : FuncData} {a__law_pick : Addr} {fd__law_pick : FuncData} (B : Blt mg) (F : Fun K "_law_machine" "_law_machine" s__law_machine f fd) (m : mg "_law_machine" = some (.ref f))
    (D__law_draw : Known P w K mg base 1 "_law_draw" s__law_draw a__law_draw fd__law_draw ["tray", "many"] (spT K "great" [true] f__law_draw))
    (D__law_pick : Known P w K mg base 2 "_law_pick" s__law_pick a__law_pick fd__law_pick ["tray", "items"] (spT K "great" [true] f__law_pick)) :
    Known P w K mg base 3 "_law_machine" s__law_machine f fd ["tray", "size", "many"] (spT K "great" [true, true] f__law_machine) :=
  ⟨m, F, F.binds (ps := ["tray", "size", "many"]) fun _ _ _ _ _ _ us hl => match us, hl with | [_, _, _], _ => rfl,
    fn_tray F sc__law_machine rfl (by decide) fun ta g cdv A outer s H F0 E hg hr => (pss_consD (ps_parD (i := 3) (j := 4) rfl sc__law_machine.nd rfl rfl (by decide) rfl rfl (pa_consV (pe_new (pe_lstD pa_nilD)) (pa_consV (pe_rv (pe_kT D__law_draw hg hr (by rfl) (pa_consD (pe_v (pv 0)) (pa_consD pe_cI pa_nilD)))) pa_nilV)) rfl)
  (pss_consD (ps_forD PassesOwn.never rfl (pi_range1D (by rfl) B.b_range (pa_consD (pe_v (pv 1)) pa_nilD)) (pg_nm (ks := [5]) (by decide) (pg_name (i := 5) sc__law_machine.nd rfl (Or.inl rfl))) (pss_consD (ps_setD (i := 6) sc__law_machine.nd rfl (Or.inl rfl) (pe_new (pe_lstD pa_nilD)))
  (pss_consD (ps_forD PassesOwn.never rfl (pi_range1D (by rfl) B.b_range (pa_consD (pe_bin op_shlD pe_cI (pe_v (pv 2))) pa_nilD)) (pg_nm (ks := [7]) (by decide) (pg_name (i := 7) sc__law_machine.nd rfl (Or.inl rfl))) (pss_consD (ps_setD (i := 8) sc__law_machine.nd rfl (Or.inl rfl) (pe_rv (pe_kT D__law_draw hg hr (by rfl) (pa_consD (pe_v (pv 0)) (pa_consD (pe_v (pv 1)) pa_nilD)))))
  (pss_consD (ps_ifD ((pw_andD (pt_cmpD (op_eqDD (hu64 hr)) (pe_v (pv 4)) pe_cI (nomark _)) (pw_and1 (pt_cmpD op_gtD (pe_kT D__law_draw hg hr (by rfl) (pa_consD (pe_v (pv 0)) (pa_consD pe_cI pa_nilD))) pe_cI (nomark _))))).pt (pss_oneD (ps_setD (i := 8) sc__law_machine.nd rfl (Or.inl rfl) (pe_rv (pe_kT D__law_pick hg hr (by rfl) (pa_consD (pe_v (pv 0)) (pa_consD (pe_keep (pe_lstD (pa_consD (pe_v (pv 5)) (pa_consD (pe_bin op_modD (pe_tyD call_intDD (by rfl) B.b_int bt_int (pa_consD (pe_bin op_addD (pe_v (pv 5)) pe_cI) pa_nilD)) (pe_v (pv 1))) pa_nilD)))) pa_nilD)))))) pss_nilD)
  (pss_oneD (ps_appD (pv 6) (pe_tupD (pa_consD (pe_v (pv 8)) (pa_consD (pe_kT D__law_draw hg hr (by rfl) (pa_consD (pe_v (pv 0)) (pa_consD pe_cI pa_nilD))) pa_nilD))))))))
  (pss_oneD (ps_appD (pv 3) (pe_tyD call_tupleDD (by rfl) B.b_tuple bt_tuple (pa_consD (pe_v (pv 6)) pa_nilD)))))))
  (pss_oneD (ps_retD (pe_tupD (pa_consD (pe_v (pv 2)) (pa_consD (pe_tyD call_tupleDD (by rfl) B.b_tuple bt_tuple (pa_consD (pe_v (pv 3)) pa_nilD)) pa_nilD)))))))⟩

/-! ### _law_least -/
abbrev s__law_least : Stmt := top 23
def N__law_least : List Str := ["machine", "many", "rows", "marks", "size", "order", "spot", "numbers", "names", "goal", "bit", "own", "row", "mark"]
theorem sc__law_least : FnScope N__law_least ["machine"] (defScope s__law_least) := ⟨rfl, rfl, rfl, by decide +kernel, rfl, by decide +kernel, by decide +kernel⟩
def m__law_least : MS Unit :=
  (mSeq (mAsg (mV 0) (gT (gs1 (gN 1) (gs1 (gN 2) gs0)) 2))
  (mSeq (mPars [3, 4] (mConsV (mRv (mKeep (mLc (mItems (mV 2)) (gN 12) mYes (mCall tupleD (mCons (mKeep (mLc (mItems (mV 12)) (gT (gs1 (gN 9) (gs1 (gN 10) gs0)) 2) mYes (mV 10) [9, 10])) mNil)) [12]))) (mConsV (mRv (mC (.int 0))) mNilV)))
  (mSeq (whileN (mTest (mBin neD (mCall lenSetD (mCons (mV 3) mNil)) (mV 4))) (mSeq (mSet 8 (mRv (mCall sortSetD (mCons (mV 3) mNil))))
  (mSeq (mSet 4 (mRv (mCall lenD (mCons (mV 8) mNil))))
  (mSeq (mSet 3 (mRv (mKeep (mLc (mItems (mV 3)) (gN 13) mYes (mMth idxM (mV 8) (mV 13)) [13]))))
  (mSet 3 (mRv (mKeep (mLc (mZip3 (mV 3) (mV 2)) (gT (gs1 (gN 13) (gs1 (gN 12) gs0)) 2) mYes (mBin addD (mTup (mCons (mV 13) mNil)) (mCall tupleD (mCons (mKeep (mLc (mItems (mV 12)) (gT (gs1 (gN 9) (gs1 (gN 10) gs0)) 2) mYes (mBin ixD (mV 3) (mV 9)) [9, 10])) mNil))) [13, 12]))))))) 700)
  (mSeq (mPar 5 6 (mConsV (mNew (mLst (mCons (mC (.int 0)) mNil))) (mConsV (mRv (mC (.int 0))) mNilV)))
  (mSeq (whileN (mTest (mBin ltD (mV 6) (mCall lenD (mCons (mV 5) mNil)))) (mSeq (mFor (mItems (mBin ixD (mV 2) (mBin ixD (mV 5) (mV 6)))) (gT (gs1 (gN 9) (gs1 (gN 10) gs0)) 2) (mIfS (mTest (mBin notInS (mBin ixD (mV 3) (mV 9)) (mKeep (mLcO 5 (gN 11) mYes (mBin ixD (mV 3) (mV 11)) [11])))) (mApp 5 (mV 9)) mSkip))
  (mSet 6 (mRv (mBin addD (mV 6) (mC (.int 1)))))) 700)
  (mSeq (mSet 7 (mRv (mKeep (mLcO 5 (gN 11) mYes (mBin ixD (mV 3) (mV 11)) [11]))))
  (mRet (mTup (mCons (mV 1) (mCons (mCall tupleD (mCons (mKeep (mLcO 5 (gN 11) mYes (mCall tupleD (mCons (mKeep (mLc (mItems (mBin ixD (mV 2) (mV 11))) (gT (gs1 (gN 9) (gs1 (gN 10) gs0)) 2) mYes (mTup (mCons (mMth idxM (mV 7) (mBin ixD (mV 3) (mV 9))) (mCons (mV 10) mNil))) [9, 10])) mNil)) [11])) mNil)) mNil))))))))))
def f__law_least : List PyData → Option PyData := mFun 14 [true] m__law_least
theorem k__law_least {P : Program} {w : World} {K : PySem.W.Frag} {mg : Str → Option Value} {base : Heap} {f : Addr} {fd : FuncData} (B : Blt mg) (F : Fun K "_law_least" "_law_least" s__law_least f fd) (m : mg "_law_least" = some (.ref f)) :
    Known P w K mg base 1 "_law_least" s__law_least f fd ["machine"] (spP K [true] f__law_least) :=
  ⟨m, F, F.binds (ps := ["machine"]) fun _ _ _ _ _ _ us hl => match us, hl with | [_], _ => rfl,
    fn_pure F sc__law_least rfl fun cdv A outer s H F0 E hg hr => (pss_consD (ps_asgD (pe_v (pv 0)) (pg_tp rfl rfl (pgs_1 (pg_nm (ks := [1, 2]) (by decide) (pg_name (i := 1) sc__law_least.nd rfl (Or.inl rfl))) (pgs_1 (pg_nm (ks := [1, 2]) (by decide) (pg_name (i := 2) sc__law_least.nd rfl (Or.inr rfl))) (pgs_0 (ks := [1, 2]))))))
  (pss_consD (ps_parsD rfl (pa_consV (pe_rv (pe_keep (pe_lcD (own := [("row", 12)]) rfl sc__law_least.nd (pi_seqD rfl (pe_v (pv 2))) (blkOk_by (own := [("row", 12)]) (N := N__law_least) (sc := defScope s__law_least) (by decide +kernel)) (fun _ _ _ _ _ => (pg_nm (ks := [12]) (by decide) (pg_name (i := 12) sc__law_least.nd rfl (Or.inl rfl)))) (fun _ _ _ _ _ => pts_nilD) (fun _ _ _ _ _ => (pe_tyD call_tupleDD (by rfl) B.b_tuple bt_tuple (pa_consD (pe_keep (pe_lcD (own := [("goal", 9), ("bit", 10)]) rfl sc__law_least.nd (pi_seqD rfl (pe_v (pv 12))) (blkOk_by (own := [("goal", 9), ("bit", 10)]) (by rfl)) (fun _ _ _ _ _ => (pg_tp rfl rfl (pgs_1 (pg_nm (ks := [9, 10]) (by decide) (pg_name (i := 9) sc__law_least.nd rfl (Or.inl rfl))) (pgs_1 (pg_nm (ks := [9, 10]) (by decide) (pg_name (i := 10) sc__law_least.nd rfl (Or.inl rfl))) (pgs_0 (ks := [9, 10])))))) (fun _ _ _ _ _ => pts_nilD) (fun _ _ _ _ _ => (pe_v (pv 10))))) pa_nilD)))))) (pa_consV (pe_rv pe_cI) pa_nilV)) (.cons (pg_name (i := 3) sc__law_least.nd rfl (Or.inr rfl)) (.cons (pg_name (i := 4) sc__law_least.nd rfl (Or.inl rfl)) .nil rfl) rfl) rfl rfl)
  (pss_consD (ps_whileD 700 PassesOwn.never (pt_cmpD (op_neDD (hu64 hr)) (pe_lenSetT rfl (hu64 hr) rfl (by rfl) B.b_len (by rfl) B.b_set (pe_v (pv 3))) (pe_v (pv 4)) (nomark _)) (pss_consD (ps_setD (i := 8) sc__law_least.nd rfl (Or.inr rfl) (pe_rv (pe_sortSet rfl (hu64 hr) rfl (by rfl) B.b_sorted (by rfl) B.b_set (pe_v (pv 3)))))
  (pss_consD (ps_setD (i := 4) sc__law_least.nd rfl (Or.inl rfl) (pe_rv (pe_bD call_lenDD (by rfl) B.b_len bt_len (pa_consD (pe_v (pv 8)) pa_nilD))))
  (pss_consD (ps_setD (i := 3) sc__law_least.nd rfl (Or.inr rfl) (pe_rv (pe_keep (pe_lcD (own := [("mark", 13)]) rfl sc__law_least.nd (pi_seqD rfl (pe_v (pv 3))) (blkOk_by (own := [("mark", 13)]) (N := N__law_least) (sc := defScope s__law_least) (by decide +kernel)) (fun _ _ _ _ _ => (pg_nm (ks := [13]) (by decide) (pg_name (i := 13) sc__law_least.nd rfl (Or.inl rfl)))) (fun _ _ _ _ _ => pts_nilD) (fun _ _ _ _ _ => (pe_idxM (hu65 hr) rfl (pe_v (pv 8)) (pe_v (pv 13))))))))
  (pss_oneD (ps_setD (i := 3) sc__law_least.nd rfl (Or.inr rfl) (pe_rv (pe_keep (pe_lcD (own := [("mark", 13), ("row", 12)]) rfl sc__law_least.nd (pi_zip3D rfl (by rfl) B.b_zip (pe_v (pv 3)) (pe_v (pv 2))) (blkOk_by (own := [("mark", 13), ("row", 12)]) (N := N__law_least) (sc := defScope s__law_least) (by decide +kernel)) (fun _ _ _ _ _ => (pg_tp rfl rfl (pgs_1 (pg_nm (ks := [13, 12]) (by decide) (pg_name (i := 13) sc__law_least.nd rfl (Or.inl rfl))) (pgs_1 (pg_nm (ks := [13, 12]) (by decide) (pg_name (i := 12) sc__law_least.nd rfl (Or.inl rfl))) (pgs_0 (ks := [13, 12])))))) (fun _ _ _ _ _ => pts_nilD) (fun _ _ _ _ _ => (pe_bin op_addD (pe_tupD (pa_consD (pe_v (pv 13)) pa_nilD)) (pe_tyD call_tupleDD (by rfl) B.b_tuple bt_tuple (pa_consD (pe_keep (pe_lcD (own := [("goal", 9), ("bit", 10)]) rfl sc__law_least.nd (pi_seqD rfl (pe_v (pv 12))) (blkOk_by (own := [("goal", 9), ("bit", 10)]) (by rfl)) (fun _ _ _ _ _ => (pg_tp rfl rfl (pgs_1 (pg_nm (ks := [9, 10]) (by decide) (pg_name (i := 9) sc__law_least.nd rfl (Or.inl rfl))) (pgs_1 (pg_nm (ks := [9, 10]) (by decide) (pg_name (i := 10) sc__law_least.nd rfl (Or.inl rfl))) (pgs_0 (ks := [9, 10])))))) (fun _ _ _ _ _ => pts_nilD) (fun _ _ _ _ _ => (pe_ixD (ix_D (hu_of hr)) (pe_v (pv 3)) (pe_v (pv 9)) (by intro _ _; rfl))))) pa_nilD)))))))))))))
  (pss_consD (ps_parD (i := 5) (j := 6) rfl sc__law_least.nd rfl rfl (by decide) rfl rfl (pa_consV (pe_new (pe_lstD (pa_consD pe_cI pa_nilD))) (pa_consV (pe_rv pe_cI) pa_nilV)) rfl)
  (pss_consD (ps_whileD 700 PassesOwn.never (pt_cmpD op_ltD (pe_v (pv 6)) (pe_bD call_lenDD (by rfl) B.b_len bt_len (pa_consD (pe_v (pv 5)) pa_nilD)) (nomark _)) (pss_consD (ps_forD PassesOwn.never rfl (pi_seqD rfl (pe_ixD (ix_D (hu_of hr)) (pe_v (pv 2)) (pe_ixD (ix_D (hu_of hr)) (pe_v (pv 5)) (pe_v (pv 6)) (by intro _ _; rfl)) (by intro _ _; rfl))) (pg_tp rfl rfl (pgs_1 (pg_nm (ks := [9, 10]) (by decide) (pg_name (i := 9) sc__law_least.nd rfl (Or.inl rfl))) (pgs_1 (pg_nm (ks := [9, 10]) (by decide) (pg_name (i := 10) sc__law_least.nd rfl (Or.inl rfl))) (pgs_0 (ks := [9, 10]))))) (pss_oneD (ps_ifD (pt_cmpD (op_notInS (hu65 hr)) (pe_ixD (ix_D (hu_of hr)) (pe_v (pv 3)) (pe_v (pv 9)) (by intro _ _; rfl)) (pe_keep (pe_lcOD (own := [("own", 11)]) rfl rfl sc__law_least.nd (pv 5) (blkOk_by (own := [("own", 11)]) (N := N__law_least) (sc := defScope s__law_least) (by decide +kernel)) (fun _ _ _ _ _ => (pg_nm (ks := [11]) (by decide) (pg_name (i := 11) sc__law_least.nd rfl (Or.inl rfl)))) (fun _ _ _ _ _ => pts_nilD) (fun _ _ _ _ _ => (pe_ixD (ix_D (hu_of hr)) (pe_v (pv 3)) (pe_v (pv 11)) (by intro _ _; rfl))))) (by rfl)) (pss_oneD (ps_appD (pv 5) (pe_v (pv 9)))) pss_nilD)))
  (pss_oneD (ps_setD (i := 6) sc__law_least.nd rfl (Or.inl rfl) (pe_rv (pe_bin op_addD (pe_v (pv 6)) pe_cI))))))
  (pss_consD (ps_setD (i := 7) sc__law_least.nd rfl (Or.inr rfl) (pe_rv (pe_keep (pe_lcOD (own := [("own", 11)]) rfl rfl sc__law_least.nd (pv 5) (blkOk_by (own := [("own", 11)]) (N := N__law_least) (sc := defScope s__law_least) (by decide +kernel)) (fun _ _ _ _ _ => (pg_nm (ks := [11]) (by decide) (pg_name (i := 11) sc__law_least.nd rfl (Or.inl rfl)))) (fun _ _ _ _ _ => pts_nilD) (fun _ _ _ _ _ => (pe_ixD (ix_D (hu_of hr)) (pe_v (pv 3)) (pe_v (pv 11)) (by intro _ _; rfl)))))))
  (pss_oneD (ps_retD (pe_tupD (pa_consD (pe_v (pv 1)) (pa_consD (pe_tyD call_tupleDD (by rfl) B.b_tuple bt_tuple (pa_consD (pe_keep (pe_lcOD (own := [("own", 11)]) rfl rfl sc__law_least.nd (pv 5) (blkOk_by (own := [("own", 11)]) (N := N__law_least) (sc := defScope s__law_least) (by decide +kernel)) (fun _ _ _ _ _ => (pg_nm (ks := [11]) (by decide) (pg_name (i := 11) sc__law_least.nd rfl (Or.inl rfl)))) (fun _ _ _ _ _ => pts_nilD) (fun _ _ _ _ _ => (pe_tyD call_tupleDD (by rfl) B.b_tuple bt_tuple (pa_consD (pe_keep (pe_lcD (own := [("goal", 9), ("bit", 10)]) rfl sc__law_least.nd (pi_seqD rfl (pe_ixD (ix_D (hu_of hr)) (pe_v (pv 2)) (pe_v (pv 11)) (by intro _ _; rfl))) (blkOk_by (own := [("goal", 9), ("bit", 10)]) (by rfl)) (fun _ _ _ _ _ => (pg_tp rfl rfl (pgs_1 (pg_nm (ks := [9, 10]) (by decide) (pg_name (i := 9) sc__law_least.nd rfl (Or.inl rfl))) (pgs_1 (pg_nm (ks := [9, 10]) (by decide) (pg_name (i := 10) sc__law_least.nd rfl (Or.inl rfl))) (pgs_0 (ks := [9, 10])))))) (fun _ _ _ _ _ => pts_nilD) (fun _ _ _ _ _ => (pe_tupD (pa_consD (pe_idxM (hu65 hr) rfl (pe_v (pv 7)) (pe_ixD (ix_D (hu_of hr)) (pe_v (pv 3)) (pe_v (pv 9)) (by intro _ _; rfl))) (pa_consD (pe_v (pv 10)) pa_nilD)))))) pa_nilD))))) pa_nilD)) pa_nilD)))))))))))⟩

/-! ### _law_counts -/
abbrev s__law_counts : Stmt := top 24
def N__law_counts : List Str := ["machine", "width", "found", "turn", "further", "many", "row", "goal", "bit"]
theorem sc__law_counts : FnScope N__law_counts ["machine", "width"] (defScope s__law_counts) := ⟨rfl, rfl, rfl, by decide +kernel, rfl, by decide +kernel, by decide +kernel⟩
def m__law_counts : MS Unit :=
  (mSeq (mSet 2 (mRv (mBin addD (mKeep (mLst (mCons (mC (.int 1)) mNil))) (mBin mulD (mKeep (mLst (mCons (mC (.int 0)) mNil))) (mBin subD (mCall lenD (mCons (mBin ixD (mV 0) (mC (.int 1))) mNil)) (mC (.int 1)))))))
  (mSeq (mFor (mRange1 (mCons (mV 1) mNil)) (gN 3) (mSeq (mSet 4 (mNew (mRepL (mKeep (mLst (mCons (mC (.int 0)) mNil))) (mCall lenD (mCons (mV 2) mNil)))))
  (mSeq (mFor (mZip2 (mV 2) (mBin ixD (mV 0) (mC (.int 1)))) (gT (gs1 (gN 5) (gs1 (gN 6) gs0)) 2) (mFor (mItems (mV 6)) (gT (gs1 (gN 7) (gs1 (gN 8) gs0)) 2) (mPutAt 4 (mV 7) (mBin addD (mBin ixD (mV 4) (mV 7)) (mV 5)))))
  (mFz 4 (mSet 2 (mRv (mV 4)))))))
  (mRet (mCall tupleD (mCons (mV 2) mNil)))))
def f__law_counts : List PyData → Option PyData := mFun 9 [true, true] m__law_counts
theorem k__law_counts {P : Program} {w : World} {K : PySem.W.Frag} {mg : Str → Option Value} {base : Heap} {f : Addr} {fd : FuncData} (B : Blt mg) (F : Fun K "_law_counts" "_law_counts" s__law_counts f fd) (m : mg "_law_counts" = some (.ref f)) :
    Known P w K mg base 1 "_law_counts" s__law_counts f fd ["machine", "width"] (spP K [true, true] f__law_counts) :=
  ⟨m, F, F.binds (ps := ["machine", "width"]) fun _ _ _ _ _ _ us hl => match us, hl with | [_, _], _ => rfl,
    fn_pure F sc__law_counts rfl fun cdv A outer s H F0 E hg hr => (pss_consD (ps_setD (i := 2) sc__law_counts.nd rfl (Or.inl rfl) (pe_rv (pe_bin op_addD (pe_keep (pe_lstD (pa_consD pe_cI pa_nilD))) (pe_bin op_mulD (pe_keep (pe_lstD (pa_consD pe_cI pa_nilD))) (pe_bin op_subD (pe_bD call_lenDD (by rfl) B.b_len bt_len (pa_consD (pe_ixD (ix_D (hu_of hr)) (pe_v (pv 0)) pe_cI (by intro _ _; rfl)) pa_nilD)) pe_cI)))))
  (pss_consD (ps_forD PassesOwn.never rfl (pi_range1D (by rfl) B.b_range (pa_consD (pe_v (pv 1)) pa_nilD)) (pg_nm (ks := [3]) (by decide) (pg_name (i := 3) sc__law_counts.nd rfl (Or.inl rfl))) (pss_consD (ps_setD (i := 4) sc__law_counts.nd rfl (Or.inl rfl) (pe_new (pe_repLD (pe_keep (pe_lstD (pa_consD pe_cI pa_nilD))) (pe_bD call_lenDD (by rfl) B.b_len bt_len (pa_consD (pe_v (pv 2)) pa_nilD)))))
  (pss_consD (ps_forD PassesOwn.never rfl (pi_zip2D rfl (by rfl) B.b_zip (pe_v (pv 2)) (pe_ixD (ix_D (hu_of hr)) (pe_v (pv 0)) pe_cI (by intro _ _; rfl))) (pg_tp rfl rfl (pgs_1 (pg_nm (ks := [5, 6]) (by decide) (pg_name (i := 5) sc__law_counts.nd rfl (Or.inl rfl))) (pgs_1 (pg_nm (ks := [5, 6]) (by decide) (pg_name (i := 6) sc__law_counts.nd rfl (Or.inl rfl))) (pgs_0 (ks := [5, 6]))))) (pss_oneD (ps_forD PassesOwn.never rfl (pi_seqD rfl (pe_v (pv 6))) (pg_tp rfl rfl (pgs_1 (pg_nm (ks := [7, 8]) (by decide) (pg_name (i := 7) sc__law_counts.nd rfl (Or.inl rfl))) (pgs_1 (pg_nm (ks := [7, 8]) (by decide) (pg_name (i := 8) sc__law_counts.nd rfl (Or.inl rfl))) (pgs_0 (ks := [7, 8]))))) (pss_oneD (ps_putAtD (pv 4) (pe_v (pv 7)) (pe_bin op_addD (pe_ixD (ix_D (hu_of hr)) (pe_v (pv 4)) (pe_v (pv 7)) (by intro _ _; rfl)) (pe_v (pv 5))))))))
  (pss_oneD (ps_fz 4 (ps_setD (i := 2) sc__law_counts.nd rfl (Or.inl rfl) (pe_rv (pe_v (pv 4)))))))))
  (pss_oneD (ps_retD (pe_tyD call_tupleDD (by rfl) B.b_tuple bt_tuple (pa_consD (pe_v (pv 2)) pa_nilD))))))⟩

/-! ### _law_written_none -/
abbrev s__law_written_none : Stmt := top 25
def N__law_written_none : List Str := ["machine", "width", "found", "turn", "further", "many", "row", "goal", "bit"]
theorem sc__law_written_none : FnScope N__law_written_none ["machine", "width"] (defScope s__law_written_none) := ⟨rfl, rfl, rfl, by decide +kernel, rfl, by decide +kernel, by decide +kernel⟩
def m__law_written_none : MS Unit :=
  (mSeq (mSet 2 (mRv (mBin addD (mKeep (mLst (mCons (mC (.int 1)) mNil))) (mBin mulD (mKeep (mLst (mCons (mC (.int 0)) mNil))) (mBin subD (mCall lenD (mCons (mBin ixD (mV 0) (mC (.int 1))) mNil)) (mC (.int 1)))))))
  (mSeq (mFor (mRange1 (mCons (mV 1) mNil)) (gN 3) (mSeq (mSet 4 (mNew (mRepL (mKeep (mLst (mCons (mC (.int 0)) mNil))) (mCall lenD (mCons (mV 2) mNil)))))
  (mSeq (mFor (mZip2 (mV 2) (mBin ixD (mV 0) (mC (.int 1)))) (gT (gs1 (gN 5) (gs1 (gN 6) gs0)) 2) (mFor (mItems (mV 6)) (gT (gs1 (gN 7) (gs1 (gN 8) gs0)) 2) (mPutAt 4 (mV 7) (mBin addD (mBin ixD (mV 4) (mV 7)) (mBin mulD (mV 5) (mBin subD (mC (.int 1)) (mV 8)))))))
  (mFz 4 (mSet 2 (mRv (mV 4)))))))
  (mRet (mCall sumD (mCons (mV 2) mNil)))))
def f__law_written_none : List PyData → Option PyData := mFun 9 [true, true] m__law_written_none
theorem k__law_written_none {P : Program} {w : World} {K : PySem.W.Frag} {mg : Str → Option Value} {base : Heap} {f : Addr} {fd : FuncData} (B : Blt mg) (F : Fun K "_law_written_none" "_law_written_none" s__law_written_none f fd) (m : mg "_law_written_none" = some (.ref f)) :
    Known P w K mg base 1 "_law_written_none" s__law_written_none f fd ["machine", "width"] (spP K [true, true] f__law_written_none) :=
  ⟨m, F, F.binds (ps := ["machine", "width"]) fun _ _ _ _ _ _ us hl => match us, hl with | [_, _], _ => rfl,
    fn_pure F sc__law_written_none rfl fun cdv A outer s H F0 E hg hr => (pss_consD (ps_setD (i := 2) sc__law_written_none.nd rfl (Or.inl rfl) (pe_rv (pe_bin op_addD (pe_keep (pe_lstD (pa_consD pe_cI pa_nilD))) (pe_bin op_mulD (pe_keep (pe_lstD (pa_consD pe_cI pa_nilD))) (pe_bin op_subD (pe_bD call_lenDD (by rfl) B.b_len bt_len (pa_consD (pe_ixD (ix_D (hu_of hr)) (pe_v (pv 0)) pe_cI (by intro _ _; rfl)) pa_nilD)) pe_cI)))))
  (pss_consD (ps_forD PassesOwn.never rfl (pi_range1D (by rfl) B.b_range (pa_consD (pe_v (pv 1)) pa_nilD)) (pg_nm (ks := [3]) (by decide) (pg_name (i := 3) sc__law_written_none.nd rfl (Or.inl rfl))) (pss_consD (ps_setD (i := 4) sc__law_written_none.nd rfl (Or.inl rfl) (pe_new (pe_repLD (pe_keep (pe_lstD (pa_consD pe_cI pa_nilD))) (pe_bD call_lenDD (by rfl) B.b_len bt_len (pa_consD (pe_v (pv 2)) pa_nilD)))))
  (pss_consD (ps_forD PassesOwn.never rfl (pi_zip2D rfl (by rfl) B.b_zip (pe_v (pv 2)) (pe_ixD (ix_D (hu_of hr)) (pe_v (pv 0)) pe_cI (by intro _ _; rfl))) (pg_tp rfl rfl (pgs_1 (pg_nm (ks := [5, 6]) (by decide) (pg_name (i := 5) sc__law_written_none.nd rfl (Or.inl rfl))) (pgs_1 (pg_nm (ks := [5, 6]) (by decide) (pg_name (i := 6) sc__law_written_none.nd rfl (Or.inl rfl))) (pgs_0 (ks := [5, 6]))))) (pss_oneD (ps_forD PassesOwn.never rfl (pi_seqD rfl (pe_v (pv 6))) (pg_tp rfl rfl (pgs_1 (pg_nm (ks := [7, 8]) (by decide) (pg_name (i := 7) sc__law_written_none.nd rfl (Or.inl rfl))) (pgs_1 (pg_nm (ks := [7, 8]) (by decide) (pg_name (i := 8) sc__law_written_none.nd rfl (Or.inl rfl))) (pgs_0 (ks := [7, 8]))))) (pss_oneD (ps_putAtD (pv 4) (pe_v (pv 7)) (pe_bin op_addD (pe_ixD (ix_D (hu_of hr)) (pe_v (pv 4)) (pe_v (pv 7)) (by intro _ _; rfl)) (pe_bin op_mulD (pe_v (pv 5)) (pe_bin op_subD pe_cI (pe_v (pv 8))))))))))
  (pss_oneD (ps_fz 4 (ps_setD (i := 2) sc__law_written_none.nd rfl (Or.inl rfl) (pe_rv (pe_v (pv 4)))))))))
  (pss_oneD (ps_retD (pe_bD (call_sumDD rfl) (by rfl) B.b_sum bt_sum (pa_consD (pe_v (pv 2)) pa_nilD))))))⟩

/-! ### _law_ones -/
abbrev s__law_ones : Stmt := top 26
def N__law_ones : List Str := ["machine", "i", "found", "many", "row", "goal", "bit"]
theorem sc__law_ones : FnScope N__law_ones ["machine", "i"] (defScope s__law_ones) := ⟨rfl, rfl, rfl, by decide +kernel, rfl, by decide +kernel, by decide +kernel⟩
def m__law_ones : MS Unit :=
  (mSeq (mSet 2 (mRv (mC (.int 0))))
  (mSeq (mFor (mZip2 (mCallP [true, true] f__law_counts (mCons (mV 0) (mCons (mV 1) mNil))) (mBin ixD (mV 0) (mC (.int 1)))) (gT (gs1 (gN 3) (gs1 (gN 4) gs0)) 2) (mSet 2 (mRv (mBin addD (mV 2) (mBin mulD (mV 3) (mCall sumD (mCons (mKeep (mLc (mItems (mV 4)) (gT (gs1 (gN 5) (gs1 (gN 6) gs0)) 2) mYes (mV 6) [5, 6])) mNil)))))))
  (mRet (mV 2))))
def f__law_ones : List PyData → Option PyData := mFun 7 [true, true] m__law_ones
theorem k__law_ones {P : Program} {w : World} {K : PySem.W.Frag} {mg : Str → Option Value} {base : Heap} {f : Addr} {fd : FuncData} {a__law_counts : Addr} {fd__law_counts : FuncData} (B : Blt mg) (F : Fun K "_law_ones" "_law_ones" s__law_ones f fd) (m : mg "_law_ones" = some (.ref f))
    (D__law_counts : Known P w K mg base 1 "_law_counts" s__law_counts a__law_counts fd__law_counts ["machine", "width"] (spP K [true, true] f__law_counts)) :
    Known P w K mg base 2 "_law_ones" s__law_ones f fd ["machine", "i"] (spP K [true, true] f__law_ones) :=
  ⟨m, F, F.binds (ps := ["machine", "i"]) fun _ _ _ _ _ _ us hl => match us, hl with | [_, _], _ => rfl,
    fn_pure F sc__law_ones rfl fun cdv A outer s H F0 E hg hr => (pss_consD (ps_setD (i := 2) sc__law_ones.nd rfl (Or.inl rfl) (pe_rv pe_cI))
  (pss_consD (ps_forD PassesOwn.never rfl (pi_zip2D rfl (by rfl) B.b_zip (pe_kP D__law_counts hg hr (by rfl) (pa_consD (pe_v (pv 0)) (pa_consD (pe_v (pv 1)) pa_nilD))) (pe_ixD (ix_D (hu_of hr)) (pe_v (pv 0)) pe_cI (by intro _ _; rfl))) (pg_tp rfl rfl (pgs_1 (pg_nm (ks := [3, 4]) (by decide) (pg_name (i := 3) sc__law_ones.nd rfl (Or.inl rfl))) (pgs_1 (pg_nm (ks := [3, 4]) (by decide) (pg_name (i := 4) sc__law_ones.nd rfl (Or.inl rfl))) (pgs_0 (ks := [3, 4]))))) (pss_oneD (ps_setD (i := 2) sc__law_ones.nd rfl (Or.inl rfl) (pe_rv (pe_bin op_addD (pe_v (pv 2)) (pe_bin op_mulD (pe_v (pv 3)) (pe_bD (call_sumDD rfl) (by rfl) B.b_sum bt_sum (pa_consD (pe_keep (pe_lcD (own := [("goal", 5), ("bit", 6)]) rfl sc__law_ones.nd (pi_seqD rfl (pe_v (pv 4))) (blkOk_by (own := [("goal", 5), ("bit", 6)]) (N := N__law_ones) (sc := defScope s__law_ones) (by decide +kernel)) (fun _ _ _ _ _ => (pg_tp rfl rfl (pgs_1 (pg_nm (ks := [5, 6]) (by decide) (pg_name (i := 5) sc__law_ones.nd rfl (Or.inl rfl))) (pgs_1 (pg_nm (ks := [5, 6]) (by decide) (pg_name (i := 6) sc__law_ones.nd rfl (Or.inl rfl))) (pgs_0 (ks := [5, 6])))))) (fun _ _ _ _ _ => pts_nilD) (fun _ _ _ _ _ => (pe_v (pv 6))))) pa_nilD))))))))
  (pss_oneD (ps_retD (pe_v (pv 2))))))⟩

/-! ### _law_all_ones -/
abbrev s__law_all_ones : Stmt := top 27
def N__law_all_ones : List Str := ["machine", "width", "found", "counted", "i", "further", "here", "many", "row", "goal", "bit"]
theorem sc__law_all_ones : FnScope N__law_all_ones ["machine", "width"] (defScope s__law_all_ones) := ⟨rfl, rfl, rfl, by decide +kernel, rfl, by decide +kernel, by decide +kernel⟩
def m__law_all_ones : MS Unit :=
  (mSeq (mPar 2 3 (mConsV (mRv (mC (.int 0))) (mConsV (mRv (mBin addD (mKeep (mLst (mCons (mC (.int 1)) mNil))) (mBin mulD (mKeep (mLst (mCons (mC (.int 0)) mNil))) (mBin subD (mCall lenD (mCons (mBin ixD (mV 0) (mC (.int 1))) mNil)) (mC (.int 1)))))) mNilV)))
  (mSeq (mFor (mRange1 (mCons (mV 1) mNil)) (gN 4) (mSeq (mPar 5 6 (mConsV (mNew (mRepL (mKeep (mLst (mCons (mC (.int 0)) mNil))) (mCall lenD (mCons (mV 3) mNil)))) (mConsV (mRv (mC (.int 0))) mNilV)))
  (mSeq (mFor (mZip2 (mV 3) (mBin ixD (mV 0) (mC (.int 1)))) (gT (gs1 (gN 7) (gs1 (gN 8) gs0)) 2) (mFor (mItems (mV 8)) (gT (gs1 (gN 9) (gs1 (gN 10) gs0)) 2) (mSeq (mPutAt 5 (mV 9) (mBin addD (mBin ixD (mV 5) (mV 9)) (mV 7)))
  (mSet 6 (mRv (mBin addD (mV 6) (mBin mulD (mV 7) (mV 10))))))))
  (mFz 5 (mPar 2 3 (mConsV (mRv (mBin addD (mV 2) (mBin shlD (mV 6) (mBin mulD (mBin ixD (mV 0) (mC (.int 0))) (mBin subD (mBin subD (mV 1) (mC (.int 1))) (mV 4)))))) (mConsV (mRv (mV 5)) mNilV)))))))
  (mRet (mV 2))))
def f__law_all_ones : List PyData → Option PyData := mFun 11 [true, true] m__law_all_ones
theorem k__law_all_ones {P : Program} {w : World} {K : PySem.W.Frag} {mg : Str → Option Value} {base : Heap} {f : Addr} {fd : FuncData} (B : Blt mg) (F : Fun K "_law_all_ones" "_law_all_ones" s__law_all_ones f fd) (m : mg "_law_all_ones" = some (.ref f)) :
    Known P w K mg base 1 "_law_all_ones" s__law_all_ones f fd ["machine", "width"] (spP K [true, true] f__law_all_ones) :=
  ⟨m, F, F.binds (ps := ["machine", "width"]) fun _ _ _ _ _ _ us hl => match us, hl with | [_, _], _ => rfl,
    fn_pure F sc__law_all_ones rfl fun cdv A outer s H F0 E hg hr => (pss_consD (ps_parD (i := 2) (j := 3) rfl sc__law_all_ones.nd rfl rfl (by decide) rfl rfl (pa_consV (pe_rv pe_cI) (pa_consV (pe_rv (pe_bin op_addD (pe_keep (pe_lstD (pa_consD pe_cI pa_nilD))) (pe_bin op_mulD (pe_keep (pe_lstD (pa_consD pe_cI pa_nilD))) (pe_bin op_subD (pe_bD call_lenDD (by rfl) B.b_len bt_len (pa_consD (pe_ixD (ix_D (hu_of hr)) (pe_v (pv 0)) pe_cI (by intro _ _; rfl)) pa_nilD)) pe_cI)))) pa_nilV)) rfl)
  (pss_consD (ps_forD PassesOwn.never rfl (pi_range1D (by rfl) B.b_range (pa_consD (pe_v (pv 1)) pa_nilD)) (pg_nm (ks := [4]) (by decide) (pg_name (i := 4) sc__law_all_ones.nd rfl (Or.inl rfl))) (pss_consD (ps_parD (i := 5) (j := 6) rfl sc__law_all_ones.nd rfl rfl (by decide) rfl rfl (pa_consV (pe_new (pe_repLD (pe_keep (pe_lstD (pa_consD pe_cI pa_nilD))) (pe_bD call_lenDD (by rfl) B.b_len bt_len (pa_consD (pe_v (pv 3)) pa_nilD)))) (pa_consV (pe_rv pe_cI) pa_nilV)) rfl)
  (pss_consD (ps_forD PassesOwn.never rfl (pi_zip2D rfl (by rfl) B.b_zip (pe_v (pv 3)) (pe_ixD (ix_D (hu_of hr)) (pe_v (pv 0)) pe_cI (by intro _ _; rfl))) (pg_tp rfl rfl (pgs_1 (pg_nm (ks := [7, 8]) (by decide) (pg_name (i := 7) sc__law_all_ones.nd rfl (Or.inl rfl))) (pgs_1 (pg_nm (ks := [7, 8]) (by decide) (pg_name (i := 8) sc__law_all_ones.nd rfl (Or.inl rfl))) (pgs_0 (ks := [7, 8]))))) (pss_oneD (ps_forD PassesOwn.never rfl (pi_seqD rfl (pe_v (pv 8))) (pg_tp rfl rfl (pgs_1 (pg_nm (ks := [9, 10]) (by decide) (pg_name (i := 9) sc__law_all_ones.nd rfl (Or.inl rfl))) (pgs_1 (pg_nm (ks := [9, 10]) (by decide) (pg_name (i := 10) sc__law_all_ones.nd rfl (Or.inl rfl))) (pgs_0 (ks := [9, 10]))))) (pss_consD (ps_putAtD (pv 5) (pe_v (pv 9)) (pe_bin op_addD (pe_ixD (ix_D (hu_of hr)) (pe_v (pv 5)) (pe_v (pv 9)) (by intro _ _; rfl)) (pe_v (pv 7))))
  (pss_oneD (ps_setD (i := 6) sc__law_all_ones.nd rfl (Or.inl rfl) (pe_rv (pe_bin op_addD (pe_v (pv 6)) (pe_bin op_mulD (pe_v (pv 7)) (pe_v (pv 10)))))))))))
  (pss_oneD (ps_fz 5 (ps_parD (i := 2) (j := 3) rfl sc__law_all_ones.nd rfl rfl (by decide) rfl rfl (pa_consV (pe_rv (pe_bin op_addD (pe_v (pv 2)) (pe_bin op_shlD (pe_v (pv 6)) (pe_bin op_mulD (pe_ixD (ix_D (hu_of hr)) (pe_v (pv 0)) pe_cI (by intro _ _; rfl)) (pe_bin op_subD (pe_bin op_subD (pe_v (pv 1)) pe_cI) (pe_v (pv 4))))))) (pa_consV (pe_rv (pe_v (pv 5))) pa_nilV)) rfl))))))
  (pss_oneD (ps_retD (pe_v (pv 2))))))⟩

/-! ### _law_doubled -/
abbrev s__law_doubled : Stmt := top 28
def N__law_doubled : List Str := ["tray", "machine", "many", "rows", "olds", "found", "old", "row", "goal", "bit", "turn", "spot", "own"]
theorem sc__law_doubled : FnScope N__law_doubled ["tray", "machine"] (defScope s__law_doubled) := ⟨rfl, rfl, rfl, by decide +kernel, rfl, by decide +kernel, by decide +kernel⟩
def m__law_doubled : MS Tr :=
  (mSeq (mAsg (mV 1) (gT (gs1 (gN 2) (gs1 (gN 3) gs0)) 2))
  (mSeq (mSet 4 (mRv (mCallT [true] f__law_mixed (mCons (mV 0) (mCons (mBin addD (mKeep (mLRg2 (mC (.int 1)) (mCall lenD (mCons (mV 3) mNil)))) (mKeep (mLc (mRange1 (mCons (mC (.int 4)) mNil)) (gN 10) mYes (mCallT [true] f__law_draw (mCons (mV 0) (mCons (mCall lenD (mCons (mV 3) mNil)) mNil))) [10]))) mNil)))))
  (mSeq (mPar 4 5 (mConsV (mRv (mBin addD (mKeep (mLst (mCons (mC (.int 0)) mNil))) (mV 4))) (mConsV (mNew (mLst mNil)) mNilV)))
  (mSeq (mFor (mItems (mV 4)) (gN 6) (mSeq (mSet 7 (mNew (mLst mNil)))
  (mSeq (mFor (mItems (mBin ixD (mV 3) (mV 6))) (gT (gs1 (gN 8) (gs1 (gN 9) gs0)) 2) (mApp 7 (mTup (mCons (mCallT [true] f__law_pick (mCons (mV 0) (mCons (mKeep (mLc (mEnum (mV 4)) (gT (gs1 (gN 11) (gs1 (gN 12) gs0)) 2) (mTest (mBin eqD (mV 12) (mV 8))) (mV 11) [11, 12])) mNil))) (mCons (mV 9) mNil)))))
  (mApp 5 (mCall tupleD (mCons (mV 7) mNil))))))
  (mRet (mTup (mCons (mTup (mCons (mV 2) (mCons (mCall tupleD (mCons (mV 5) mNil)) mNil))) (mCons (mV 4) mNil))))))))
def f__law_doubled : Tr → List PyData → Option (PyData × Tr) := mFunT 13 [true] m__law_doubled
theorem k__law_doubled {P : Program} {w : World} {K : PySem.W.Frag} {mg : Str → Option Value} {base : Heap} {f : Addr} {fd : FuncData} {a__law_mixed : Addr} {fd__law_mixed : FuncData} {a__law_draw : Addr} {fd__law_draw : FuncData} {a__law_pick : Addr} {fd__law_pick : FuncData} (B : Blt mg) (F : Fun K "_law_doubled" "_law_doubled" s__law_doubled f fd) (m : mg "_law_doubled" = some (.ref f))
    (D__law_mixed : Known P w K mg base 2 "_law_mixed" s__law_mixed a__law_mixed fd__law_mixed ["tray", "items"] (spT K "great" [true] f__law_mixed))
    (D__law_draw : Known P w K mg base 1 "_law_draw" s__law_draw a__law_draw fd__law_draw ["tray", "many"] (spT K "great" [true] f__law_draw))
    (D__law_pick : Known P w K mg base 2 "_law_pick" s__law_pick a__law_pick fd__law_pick ["tray", "items"] (spT K "great" [true] f__law_pick)) :
    Known P w K mg base 3 "_law_doubled" s__law_doubled f fd ["tray", "machine"] (spT K "great" [true] f__law_doubled) :=
  ⟨m, F, F.binds (ps := ["tray", "machine"]) fun _ _ _ _ _ _ us hl => match us, hl with | [_, _], _ => rfl,
    fn_tray F sc__law_doubled rfl (by decide) fun ta g cdv A outer s H F0 E hg hr => (pss_consD (ps_asgD (pe_v (pv 1)) (pg_tp rfl rfl (pgs_1 (pg_nm (ks := [2, 3]) (by decide) (pg_name (i := 2) sc__law_doubled.nd rfl (Or.inl rfl))) (pgs_1 (pg_nm (ks := [2, 3]) (by decide) (pg_name (i := 3) sc__law_doubled.nd rfl (Or.inr rfl))) (pgs_0 (ks := [2, 3]))))))
  (pss_consD (ps_setD (i := 4) sc__law_doubled.nd rfl (Or.inl rfl) (pe_rv (pe_kT D__law_mixed hg hr (by rfl) (pa_consD (pe_v (pv 0)) (pa_consD (pe_bin op_addD (pe_keep (pe_lRg2D rfl (by rfl) B.b_list (by rfl) B.b_range pe_cI (pe_bD call_lenDD (by rfl) B.b_len bt_len (pa_consD (pe_v (pv 3)) pa_nilD)))) (pe_keep (pe_lcD (own := [("turn", 10)]) rfl sc__law_doubled.nd (pi_range1D (by rfl) B.b_range (pa_consD pe_cI pa_nilD)) (blkOk_by (own := [("turn", 10)]) (N := N__law_doubled) (sc := defScope s__law_doubled) (by decide +kernel)) (fun _ _ _ _ _ => (pg_nm (ks := [10]) (by decide) (pg_name (i := 10) sc__law_doubled.nd rfl (Or.inl rfl)))) (fun _ _ _ _ _ => pts_nilD) (fun _ _ _ _ _ => (pe_kT D__law_draw hg hr (by rfl) (pa_consD (pe_v (pv 0)) (pa_consD (pe_bD call_lenDD (by rfl) B.b_len bt_len (pa_consD (pe_v (pv 3)) pa_nilD)) pa_nilD))))))) pa_nilD)))))
  (pss_consD (ps_parD (i := 4) (j := 5) rfl sc__law_doubled.nd rfl rfl (by decide) rfl rfl (pa_consV (pe_rv (pe_bin op_addD (pe_keep (pe_lstD (pa_consD pe_cI pa_nilD))) (pe_v (pv 4)))) (pa_consV (pe_new (pe_lstD pa_nilD)) pa_nilV)) rfl)
  (pss_consD (ps_forD PassesOwn.never rfl (pi_seqD rfl (pe_v (pv 4))) (pg_nm (ks := [6]) (by decide) (pg_name (i := 6) sc__law_doubled.nd rfl (Or.inl rfl))) (pss_consD (ps_setD (i := 7) sc__law_doubled.nd rfl (Or.inl rfl) (pe_new (pe_lstD pa_nilD)))
  (pss_consD (ps_forD PassesOwn.never rfl (pi_seqD rfl (pe_ixD (ix_D (hu_of hr)) (pe_v (pv 3)) (pe_v (pv 6)) (by intro _ _; rfl))) (pg_tp rfl rfl (pgs_1 (pg_nm (ks := [8, 9]) (by decide) (pg_name (i := 8) sc__law_doubled.nd rfl (Or.inr rfl))) (pgs_1 (pg_nm (ks := [8, 9]) (by decide) (pg_name (i := 9) sc__law_doubled.nd rfl (Or.inl rfl))) (pgs_0 (ks := [8, 9]))))) (pss_oneD (ps_appD (pv 7) (pe_tupD (pa_consD (pe_kT D__law_pick hg hr (by rfl) (pa_consD (pe_v (pv 0)) (pa_consD (pe_keep (pe_lcD (own := [("spot", 11), ("own", 12)]) rfl sc__law_doubled.nd (pi_enumD rfl (by rfl) B.b_enumerate (pe_v (pv 4))) (blkOk_by (own := [("spot", 11), ("own", 12)]) (N := N__law_doubled) (sc := defScope s__law_doubled) (by decide +kernel)) (fun _ _ _ _ _ => (pg_tp rfl rfl (pgs_1 (pg_nm (ks := [11, 12]) (by decide) (pg_name (i := 11) sc__law_doubled.nd rfl (Or.inl rfl))) (pgs_1 (pg_nm (ks := [11, 12]) (by decide) (pg_name (i := 12) sc__law_doubled.nd rfl (Or.inl rfl))) (pgs_0 (ks := [11, 12])))))) (fun _ _ _ _ _ => (pts_oneD (pt_cmpD (op_eqDD (hu64 hr)) (pe_v (pv 12)) (pe_v (pv 8)) (nomark _)))) (fun _ _ _ _ _ => (pe_v (pv 11))))) pa_nilD))) (pa_consD (pe_v (pv 9)) pa_nilD))))))
  (pss_oneD (ps_appD (pv 5) (pe_tyD call_tupleDD (by rfl) B.b_tuple bt_tuple (pa_consD (pe_v (pv 7)) pa_nilD)))))))
  (pss_oneD (ps_retD (pe_tupD (pa_consD (pe_tupD (pa_consD (pe_v (pv 2)) (pa_consD (pe_tyD call_tupleDD (by rfl) B.b_tuple bt_tuple (pa_consD (pe_v (pv 5)) pa_nilD)) pa_nilD))) (pa_consD (pe_v (pv 4)) pa_nilD)))))))))⟩

/-! ### _law_renamed -/
abbrev s__law_renamed : Stmt := top 29
def N__law_renamed : List Str := ["tray", "machine", "many", "rows", "order", "found", "old", "state", "goal", "bit"]
theorem sc__law_renamed : FnScope N__law_renamed ["tray", "machine"] (defScope s__law_renamed) := ⟨rfl, rfl, rfl, by decide +kernel, rfl, by decide +kernel, by decide +kernel⟩
def m__law_renamed : MS Tr :=
  (mSeq (mAsg (mV 1) (gT (gs1 (gN 2) (gs1 (gN 3) gs0)) 2))
  (mSeq (mSet 4 (mRv (mBin addD (mKeep (mLst (mCons (mC (.int 0)) mNil))) (mCallT [true] f__law_mixed (mCons (mV 0) (mCons (mKeep (mLRg2 (mC (.int 1)) (mCall lenD (mCons (mV 3) mNil)))) mNil))))))
  (mSeq (mEnd 5 (mSet 5 (mNew (mLc (mItems (mV 4)) (gN 6) mYes (mCall tupleD (mCons (mKeep (mLc (mItems (mBin ixD (mV 3) (mV 6))) (gT (gs1 (gN 8) (gs1 (gN 9) gs0)) 2) mYes (mTup (mCons (mMth idxM (mV 4) (mV 8)) (mCons (mV 9) mNil))) [8, 9])) mNil)) [6]))))
  (mRet (mTup (mCons (mTup (mCons (mV 2) (mCons (mCall tupleD (mCons (mV 5) mNil)) mNil))) (mCons (mKeep (mLc (mRange1 (mCons (mCall lenD (mCons (mV 3) mNil)) mNil)) (gN 7) mYes (mMth idxM (mV 4) (mV 7)) [7])) mNil)))))))
def f__law_renamed : Tr → List PyData → Option (PyData × Tr) := mFunT 10 [true] m__law_renamed
theorem k__law_renamed {P : Program} {w : World} {K : PySem.W.Frag} {mg : Str → Option Value} {base : Heap} {f : Addr} {fd : FuncData} {a__law_mixed : Addr} {fd__law_mixed : FuncData} (B : Blt mg) (F : Fun K "_law_renamed" "_law_renamed" s__law_renamed f fd) (m : mg "_law_renamed" = some (.ref f))
    (D__law_mixed : Known P w K mg base 2 "_law_mixed" s__law_mixed a__law_mixed fd__law_mixed ["tray", "items"] (spT K "great" [true] f__law_mixed)) :
    Known P w K mg base 3 "_law_renamed" s__law_renamed f fd ["tray", "machine"] (spT K "great" [true] f__law_renamed) :=
  ⟨m, F, F.binds (ps := ["tray", "machine"]) fun _ _ _ _ _ _ us hl => match us, hl with | [_, _], _ => rfl,
    fn_tray F sc__law_renamed rfl (by decide) fun ta g cdv A outer s H F0 E hg hr => (pss_consD (ps_asgD (pe_v (pv 1)) (pg_tp rfl rfl (pgs_1 (pg_nm (ks := [2, 3]) (by decide) (pg_name (i := 2) sc__law_renamed.nd rfl (Or.inl rfl))) (pgs_1 (pg_nm (ks := [2, 3]) (by decide) (pg_name (i := 3) sc__law_renamed.nd rfl (Or.inr rfl))) (pgs_0 (ks := [2, 3]))))))
  (pss_consD (ps_setD (i := 4) sc__law_renamed.nd rfl (Or.inr rfl) (pe_rv (pe_bin op_addD (pe_keep (pe_lstD (pa_consD pe_cI pa_nilD))) (pe_kT D__law_mixed hg hr (by rfl) (pa_consD (pe_v (pv 0)) (pa_consD (pe_keep (pe_lRg2D rfl (by rfl) B.b_list (by rfl) B.b_range pe_cI (pe_bD call_lenDD (by rfl) B.b_len bt_len (pa_consD (pe_v (pv 3)) pa_nilD)))) pa_nilD))))))
  (pss_consD (ps_end 5 (ps_lcD (i := 5) (own := [("old", 6)]) rfl sc__law_renamed.nd rfl rfl (sw_true rfl rfl rfl (by decide +kernel)) (pi_seqD rfl (pe_v (pv 4))) (blkOk_by (own := [("old", 6)]) (N := N__law_renamed) (sc := defScope s__law_renamed) (by decide +kernel)) (fun _ _ _ _ _ => (pg_nm (ks := [6]) (by decide) (pg_name (i := 6) sc__law_renamed.nd rfl (Or.inl rfl)))) (fun _ _ _ _ _ => pts_nilD) (fun _ _ _ _ _ => (pe_tyD call_tupleDD (by rfl) B.b_tuple bt_tuple (pa_consD (pe_keep (pe_lcD (own := [("goal", 8), ("bit", 9)]) rfl sc__law_renamed.nd (pi_seqD rfl (pe_ixD (ix_D (hu_of hr)) (pe_v (pv 3)) (pe_v (pv 6)) (by intro _ _; rfl))) (blkOk_by (own := [("goal", 8), ("bit", 9)]) (by rfl)) (fun _ _ _ _ _ => (pg_tp rfl rfl (pgs_1 (pg_nm (ks := [8, 9]) (by decide) (pg_name (i := 8) sc__law_renamed.nd rfl (Or.inl rfl))) (pgs_1 (pg_nm (ks := [8, 9]) (by decide) (pg_name (i := 9) sc__law_renamed.nd rfl (Or.inl rfl))) (pgs_0 (ks := [8, 9])))))) (fun _ _ _ _ _ => pts_nilD) (fun _ _ _ _ _ => (pe_tupD (pa_consD (pe_idxM (hu65 hr) rfl (pe_v (pv 4)) (pe_v (pv 8))) (pa_consD (pe_v (pv 9)) pa_nilD)))))) pa_nilD)))))
  (pss_oneD (ps_retD (pe_tupD (pa_consD (pe_tupD (pa_consD (pe_v (pv 2)) (pa_consD (pe_tyD call_tupleDD (by rfl) B.b_tuple bt_tuple (pa_consD (pe_v (pv 5)) pa_nilD)) pa_nilD))) (pa_consD (pe_keep (pe_lcD (own := [("state", 7)]) rfl sc__law_renamed.nd (pi_range1D (by rfl) B.b_range (pa_consD (pe_bD call_lenDD (by rfl) B.b_len bt_len (pa_consD (pe_v (pv 3)) pa_nilD)) pa_nilD)) (blkOk_by (own := [("state", 7)]) (N := N__law_renamed) (sc := defScope s__law_renamed) (by decide +kernel)) (fun _ _ _ _ _ => (pg_nm (ks := [7]) (by decide) (pg_name (i := 7) sc__law_renamed.nd rfl (Or.inl rfl)))) (fun _ _ _ _ _ => pts_nilD) (fun _ _ _ _ _ => (pe_idxM (hu65 hr) rfl (pe_v (pv 4)) (pe_v (pv 7)))))) pa_nilD))))))))⟩

/-! ### _law_are_lots_right -/
abbrev s__law_are_lots_right : Stmt := top 30
def N__law_are_lots_right : List Str := ["tray", "machine", "width", "other", "numbers", "more", "olds", "held", "told", "found", "old", "many", "number"]
theorem sc__law_are_lots_right : FnScope N__law_are_lots_right ["tray", "machine", "width"] (defScope s__law_are_lots_right) := ⟨rfl, rfl, rfl, by decide +kernel, rfl, by decide +kernel, by decide +kernel⟩
def m__law_are_lots_right : MS Tr :=
  (mSeq (mAsg (mTup (mCons (mCallT [true] f__law_renamed (mCons (mV 0) (mCons (mV 1) mNil))) (mCons (mCallT [true] f__law_doubled (mCons (mV 0) (mCons (mV 1) mNil))) mNil))) (gT (gs1 (gT (gs1 (gN 3) (gs1 (gN 4) gs0)) 2) (gs1 (gT (gs1 (gN 5) (gs1 (gN 6) gs0)) 2) gs0)) 2))
  (mSeq (mPars [7, 8] (mConsV (mRv (mCallP [true, true] f_lots (mCons (mV 1) (mCons (mV 2) mNil)))) (mConsV (mRv (mCallP [true, true] f_lots (mCons (mV 3) (mCons (mV 2) mNil)))) mNilV)))
  (mSeq (mIfS (mTest (mBin neD (mCall reprE (mCons (mKeep (mLc (mItems (mV 4)) (gN 12) mYes (mBin ixD (mV 8) (mV 12)) [12])) mNil)) (mCall reprE (mCons (mCall listD (mCons (mV 7) mNil)) mNil)))) (mRet (mC (.bool false))) mSkip)
  (mSeq (mSet 9 (mNew (mRepL (mKeep (mLst (mCons (mC (.int 0)) mNil))) (mCall lenD (mCons (mV 7) mNil)))))
  (mSeq (mFor (mZip2 (mV 6) (mCallP [true, true] f_lots (mCons (mV 5) (mCons (mV 2) mNil)))) (gT (gs1 (gN 10) (gs1 (gN 11) gs0)) 2) (mPutAt 9 (mV 10) (mBin addD (mBin ixD (mV 9) (mV 10)) (mV 11))))
  (mRet (mBin eqD (mCall reprE (mCons (mCall tupleD (mCons (mV 9) mNil)) mNil)) (mCall reprE (mCons (mV 7) mNil)))))))))
def f__law_are_lots_right : Tr → List PyData → Option (PyData × Tr) := mFunT 13 [true, true] m__law_are_lots_right
theorem k__law_are_lots_right {P : Program} {w : World} {K : PySem.W.Frag} {mg : Str → Option Value} {base : Heap} {f : Addr} {fd : FuncData} {a__law_doubled : Addr} {fd__law_doubled : FuncData} {a__law_renamed : Addr} {fd__law_renamed : FuncData} {a_lots : Addr} {fd_lots : FuncData} (B : Blt mg) (F : Fun K "_law_are_lots_right" "_law_are_lots_right" s__law_are_lots_right f fd) (m : mg "_law_are_lots_right" = some (.ref f))
    (D__law_doubled : Known P w K mg base 3 "_law_doubled" s__law_doubled a__law_doubled fd__law_doubled ["tray", "machine"] (spT K "great" [true] f__law_doubled))
    (D__law_renamed : Known P w K mg base 3 "_law_renamed" s__law_renamed a__law_renamed fd__law_renamed ["tray", "machine"] (spT K "great" [true] f__law_renamed))
    (D_lots : Known P w K mg base 2 "lots" s_lots a_lots fd_lots ["machine", "width"] (spP K [true, true] f_lots)) :
    Known P w K mg base 4 "_law_are_lots_right" s__law_are_lots_right f fd ["tray", "machine", "width"] (spT K "great" [true, true] f__law_are_lots_right) :=
  ⟨m, F, F.binds (ps := ["tray", "machine", "width"]) fun _ _ _ _ _ _ us hl => match us, hl with | [_, _, _], _ => rfl,
    fn_tray F sc__law_are_lots_right rfl (by decide) fun ta g cdv A outer s H F0 E hg hr => (pss_consD (ps_asgD (pe_tupD (pa_consD (pe_kT D__law_renamed hg hr (by rfl) (pa_consD (pe_v (pv 0)) (pa_consD (pe_v (pv 1)) pa_nilD))) (pa_consD (pe_kT D__law_doubled hg hr (by rfl) (pa_consD (pe_v (pv 0)) (pa_consD (pe_v (pv 1)) pa_nilD))) pa_nilD))) (pg_tp rfl rfl (pgs_1 (pg_tp rfl rfl (pgs_1 (pg_nm (ks := [3, 4, 5, 6]) (by decide) (pg_name (i := 3) sc__law_are_lots_right.nd rfl (Or.inl rfl))) (pgs_1 (pg_nm (ks := [3, 4, 5, 6]) (by decide) (pg_name (i := 4) sc__law_are_lots_right.nd rfl (Or.inl rfl))) (pgs_0 (ks := [3, 4, 5, 6]))))) (pgs_1 (pg_tp rfl rfl (pgs_1 (pg_nm (ks := [3, 4, 5, 6]) (by decide) (pg_name (i := 5) sc__law_are_lots_right.nd rfl (Or.inl rfl))) (pgs_1 (pg_nm (ks := [3, 4, 5, 6]) (by decide) (pg_name (i := 6) sc__law_are_lots_right.nd rfl (Or.inl rfl))) (pgs_0 (ks := [3, 4, 5, 6]))))) (pgs_0 (ks := [3, 4, 5, 6]))))))
  (pss_consD (ps_parsD rfl (pa_consV (pe_rv (pe_kP D_lots hg hr (by rfl) (pa_consD (pe_v (pv 1)) (pa_consD (pe_v (pv 2)) pa_nilD)))) (pa_consV (pe_rv (pe_kP D_lots hg hr (by rfl) (pa_consD (pe_v (pv 3)) (pa_consD (pe_v (pv 2)) pa_nilD)))) pa_nilV)) (.cons (pg_name (i := 7) sc__law_are_lots_right.nd rfl (Or.inl rfl)) (.cons (pg_name (i := 8) sc__law_are_lots_right.nd rfl (Or.inr rfl)) .nil rfl) rfl) rfl rfl)
  (pss_consD (ps_ifD (pt_cmpD (op_neDD (hu64 hr)) (pe_bD (call_reprEE hg (hu64 hr)) (by rfl) B.b_repr bt_repr (pa_consD (pe_keep (pe_lcD (own := [("number", 12)]) rfl sc__law_are_lots_right.nd (pi_seqD rfl (pe_v (pv 4))) (blkOk_by (own := [("number", 12)]) (N := N__law_are_lots_right) (sc := defScope s__law_are_lots_right) (by decide +kernel)) (fun _ _ _ _ _ => (pg_nm (ks := [12]) (by decide) (pg_name (i := 12) sc__law_are_lots_right.nd rfl (Or.inl rfl)))) (fun _ _ _ _ _ => pts_nilD) (fun _ _ _ _ _ => (pe_ixD (ix_D (hu_of hr)) (pe_v (pv 8)) (pe_v (pv 12)) (by intro _ _; rfl))))) pa_nilD)) (pe_bD (call_reprEE hg (hu64 hr)) (by rfl) B.b_repr bt_repr (pa_consD (pe_tyD call_listDD (by rfl) B.b_list bt_list (pa_consD (pe_v (pv 7)) pa_nilD)) pa_nilD)) (nomark _)) (pss_oneD (ps_retD pe_cB)) pss_nilD)
  (pss_consD (ps_setD (i := 9) sc__law_are_lots_right.nd rfl (Or.inl rfl) (pe_new (pe_repLD (pe_keep (pe_lstD (pa_consD pe_cI pa_nilD))) (pe_bD call_lenDD (by rfl) B.b_len bt_len (pa_consD (pe_v (pv 7)) pa_nilD)))))
  (pss_consD (ps_forD PassesOwn.never rfl (pi_zip2D rfl (by rfl) B.b_zip (pe_v (pv 6)) (pe_kP D_lots hg hr (by rfl) (pa_consD (pe_v (pv 5)) (pa_consD (pe_v (pv 2)) pa_nilD)))) (pg_tp rfl rfl (pgs_1 (pg_nm (ks := [10, 11]) (by decide) (pg_name (i := 10) sc__law_are_lots_right.nd rfl (Or.inl rfl))) (pgs_1 (pg_nm (ks := [10, 11]) (by decide) (pg_name (i := 11) sc__law_are_lots_right.nd rfl (Or.inl rfl))) (pgs_0 (ks := [10, 11]))))) (pss_oneD (ps_putAtD (pv 9) (pe_v (pv 10)) (pe_bin op_addD (pe_ixD (ix_D (hu_of hr)) (pe_v (pv 9)) (pe_v (pv 10)) (by intro _ _; rfl)) (pe_v (pv 11))))))
  (pss_oneD (ps_retD (pe_cmpD (op_eqDD (hu64 hr)) (pe_bD (call_reprEE hg (hu64 hr)) (by rfl) B.b_repr bt_repr (pa_consD (pe_tyD call_tupleDD (by rfl) B.b_tuple bt_tuple (pa_consD (pe_v (pv 9)) pa_nilD)) pa_nilD)) (pe_bD (call_reprEE hg (hu64 hr)) (by rfl) B.b_repr bt_repr (pa_consD (pe_v (pv 7)) pa_nilD)) (nomark _)))))))))⟩

/-! ### law -/
abbrev s_law : Stmt := top 31
def N_law : List Str := ["script", "tray", "turn", "machine", "great", "width", "kept", "i", "due", "some", "own"]
theorem sc_law : FnScope N_law ["script"] (defScope s_law) := ⟨rfl, rfl, rfl, by decide +kernel, rfl, by decide +kernel, by decide +kernel⟩
def m_law : MS Tr :=
  (mSeq (mFor (mRange1 (mCons (mC (.int 4)) mNil)) (gN 2) (mSeq (mSet 3 (mRv (mCallT [true, true] f__law_machine (mCons (mV 1) (mCons (mBin addD (mC (.int 1)) (mCallT [true] f__law_draw (mCons (mV 1) (mCons (mC (.int 5)) mNil)))) (mCons (mCallT [true] f__law_pick (mCons (mV 1) (mCons (mKeep (mLst (mCons (mC (.int 0)) (mCons (mC (.int 1)) (mCons (mC (.int 1)) (mCons (mC (.int 2)) mNil)))))) mNil))) mNil))))))
  (mSeq (mSet 4 (mRv (mIf (mTest (mBin ltD (mBin ixD (mV 3) (mC (.int 0))) (mC (.int 2)))) (mKeep (mLst (mCons (mC (.int 60)) (mCons (mC (.int 100)) mNil)))) (mKeep (mLst (mCons (mC (.int 20)) (mCons (mC (.int 40)) mNil)))))))
  (mSeq (mSet 5 (mRv (mIf (mTest (mBin ltD (mV 2) (mC (.int 3)))) (mCallT [true] f__law_pick (mCons (mV 1) (mCons (mKeep (mLst (mCons (mC (.int 1)) (mCons (mC (.int 2)) (mCons (mC (.int 3)) (mCons (mC (.int 9)) (mCons (mC (.int 15)) mNil))))))) mNil))) (mCallT [true] f__law_pick (mCons (mV 1) (mCons (mV 4) mNil))))))
  (mSeq (mPar 6 7 (mConsV (mRv (mCall reprE (mCons (mV 3) mNil))) (mConsV (mRv (mCallT [true] f__law_draw (mCons (mV 1) (mCons (mV 5) mNil)))) mNilV)))
  (mSeq (mSet 8 (mRv (mCall reprE (mCons (mKeep (mLst (mCons (mCallP [true, true] f__law_written_none (mCons (mV 3) (mCons (mV 5) mNil))) (mCons (mCallP [true, true] f__law_ones (mCons (mV 3) (mCons (mV 7) mNil))) (mCons (mCallP [true, true] f__law_all_ones (mCons (mV 3) (mCons (mV 5) mNil))) mNil))))) mNil))))
  (mSeq (mSet 9 (mRv (mKeep (mLst (mCons (mV 3) (mCons (mBin ixD (mCallT [true] f__law_renamed (mCons (mV 1) (mCons (mV 3) mNil))) (mC (.int 0))) (mCons (mBin ixD (mCallT [true] f__law_doubled (mCons (mV 1) (mCons (mV 3) mNil))) (mC (.int 0))) (mCons (mCallP [true] f__law_least (mCons (mV 3) mNil)) mNil))))))))
  (mSeq (mFor (mItems (mBin addD (mV 9) (mKeep (mLst (mCons (mCallP [true] f_least (mCons (mV 3) mNil)) mNil))))) (gN 10) (mIfS (mTest (mBin neD (mCall reprE (mCons (mKeep (mLst (mCons (mCallP [true, true] f_noughts (mCons (mV 10) (mCons (mV 5) mNil))) (mCons (mCallP [true, true] f_ones_at (mCons (mV 10) (mCons (mV 7) mNil))) (mCons (mCallP [true, true] f_ones_in_all (mCons (mV 10) (mCons (mV 5) mNil))) mNil))))) mNil)) (mV 8))) (mRet (mC (.bool false))) mSkip))
  (mIfS (mOr (mNot (mTest (mCallT [true, true] f__law_are_lots_right (mCons (mV 1) (mCons (mV 3) (mCons (mV 5) mNil)))))) (mTest (mBin neD (mCall reprE (mCons (mV 3) mNil)) (mV 6)))) (mRet (mC (.bool false))) mSkip)))))))))
  (mRet (mC (.bool true))))
theorem k_law {P : Program} {w : World} {K : PySem.W.Frag} {mg : Str → Option Value} {base : Heap} {f : Addr} {fd : FuncData} {a__law_tray : Addr} {fd__law_tray : FuncData} {a__law_machine : Addr} {fd__law_machine : FuncData} {a__law_pick : Addr} {fd__law_pick : FuncData} {a__law_draw : Addr} {fd__law_draw : FuncData} {a__law_all_ones : Addr} {fd__law_all_ones : FuncData} {a__law_ones : Addr} {fd__law_ones : FuncData} {a__law_written_none : Addr} {fd__law_written_none : FuncData} {a__law_least : Addr} {fd__law_least : FuncData} {a__law_doubled : Addr} {fd__law_doubled : FuncData} {a__law_renamed : Addr} {fd__law_renamed : FuncData} {a_least : Addr} {fd_least : FuncData} {a_ones_in_all : Addr} {fd_ones_in_all : FuncData} {a_ones_at : Addr} {fd_ones_at : FuncData} {a_noughts : Addr} {fd_noughts : FuncData} {a__law_are_lots_right : Addr} {fd__law_are_lots_right : FuncData} (B : Blt mg) (F : Fun K "law" "law" s_law f fd) (m : mg "law" = some (.ref f))
    (D__law_tray : Known P w K mg base 1 "_law_tray" s__law_tray a__law_tray fd__law_tray ["script"] (spS K f__law_tray))
    (D__law_machine : Known P w K mg base 3 "_law_machine" s__law_machine a__law_machine fd__law_machine ["tray", "size", "many"] (spT K "great" [true, true] f__law_machine))
    (D__law_pick : Known P w K mg base 2 "_law_pick" s__law_pick a__law_pick fd__law_pick ["tray", "items"] (spT K "great" [true] f__law_pick))
    (D__law_draw : Known P w K mg base 1 "_law_draw" s__law_draw a__law_draw fd__law_draw ["tray", "many"] (spT K "great" [true] f__law_draw))
    (D__law_all_ones : Known P w K mg base 1 "_law_all_ones" s__law_all_ones a__law_all_ones fd__law_all_ones ["machine", "width"] (spP K [true, true] f__law_all_ones))
    (D__law_ones : Known P w K mg base 2 "_law_ones" s__law_ones a__law_ones fd__law_ones ["machine", "i"] (spP K [true, true] f__law_ones))
    (D__law_written_none : Known P w K mg base 1 "_law_written_none" s__law_written_none a__law_written_none fd__law_written_none ["machine", "width"] (spP K [true, true] f__law_written_none))
    (D__law_least : Known P w K mg base 1 "_law_least" s__law_least a__law_least fd__law_least ["machine"] (spP K [true] f__law_least))
    (D__law_doubled : Known P w K mg base 3 "_law_doubled" s__law_doubled a__law_doubled fd__law_doubled ["tray", "machine"] (spT K "great" [true] f__law_doubled))
    (D__law_renamed : Known P w K mg base 3 "_law_renamed" s__law_renamed a__law_renamed fd__law_renamed ["tray", "machine"] (spT K "great" [true] f__law_renamed))
    (D_least : Known P w K mg base 3 "least" s_least a_least fd_least ["machine"] (spP K [true] f_least))
    (D_ones_in_all : Known P w K mg base 2 "ones_in_all" s_ones_in_all a_ones_in_all fd_ones_in_all ["machine", "width"] (spP K [true, true] f_ones_in_all))
    (D_ones_at : Known P w K mg base 3 "ones_at" s_ones_at a_ones_at fd_ones_at ["machine", "i"] (spP K [true, true] f_ones_at))
    (D_noughts : Known P w K mg base 2 "noughts" s_noughts a_noughts fd_noughts ["machine", "width"] (spP K [true, true] f_noughts))
    (D__law_are_lots_right : Known P w K mg base 4 "_law_are_lots_right" s__law_are_lots_right a__law_are_lots_right fd__law_are_lots_right ["tray", "machine", "width"] (spT K "great" [true, true] f__law_are_lots_right))
    (hlaw : ∀ ns : List Int, ns.length ≤ 63 → (∀ z ∈ ns, Builtin.Int.intBits z ≤ 1048576) → ∃ t0, f__law_tray ns = some (trD "great" t0) ∧ ∃ t', m_law (entryL 11 1) t0 = some (.rt (.bool true), t')) :
    Known P w K mg base 5 "law" s_law f fd ["script"] (spLaw K 63) :=
  ⟨m, F, F.binds (ps := ["script"]) fun _ _ _ _ _ _ us hl => match us, hl with | [_], _ => rfl,
    fn_law (i := 1) F sc_law rfl (by decide) (by decide) (fun cdv A outer s H E hg hr => ps_make D__law_tray hg hr (by rfl) (pv 0) sc_law.nd rfl (Or.inl rfl)) (fun ta g cdv A outer s H H0 F0 E hg hr => (pss_consD (ps_forD PassesOwn.never rfl (pi_range1D (by rfl) B.b_range (pa_consD pe_cI pa_nilD)) (pg_nm (ks := [2]) (by decide) (pg_name (i := 2) sc_law.nd rfl (Or.inl rfl))) (pss_consD (ps_setD (i := 3) sc_law.nd rfl (Or.inl rfl) (pe_rv (pe_kT D__law_machine hg hr (by rfl) (pa_consD (pe_v (pv 1)) (pa_consD (pe_bin op_addD pe_cI (pe_kT D__law_draw hg hr (by rfl) (pa_consD (pe_v (pv 1)) (pa_consD pe_cI pa_nilD)))) (pa_consD (pe_kT D__law_pick hg hr (by rfl) (pa_consD (pe_v (pv 1)) (pa_consD (pe_keep (pe_lstD (pa_consD pe_cI (pa_consD pe_cI (pa_consD pe_cI (pa_consD pe_cI pa_nilD)))))) pa_nilD))) pa_nilD))))))
  (pss_consD (ps_setD (i := 4) sc_law.nd rfl (Or.inl rfl) (pe_rv (pe_ifD (pt_cmpD op_ltD (pe_ixD (ix_D (hu_of hr)) (pe_v (pv 3)) pe_cI (by intro _ _; rfl)) pe_cI (nomark _)) (pe_keep (pe_lstD (pa_consD pe_cI (pa_consD pe_cI pa_nilD)))) (pe_keep (pe_lstD (pa_consD pe_cI (pa_consD pe_cI pa_nilD)))))))
  (pss_consD (ps_setD (i := 5) sc_law.nd rfl (Or.inl rfl) (pe_rv (pe_ifD (pt_cmpD op_ltD (pe_v (pv 2)) pe_cI (nomark _)) (pe_kT D__law_pick hg hr (by rfl) (pa_consD (pe_v (pv 1)) (pa_consD (pe_keep (pe_lstD (pa_consD pe_cI (pa_consD pe_cI (pa_consD pe_cI (pa_consD pe_cI (pa_consD pe_cI pa_nilD))))))) pa_nilD))) (pe_kT D__law_pick hg hr (by rfl) (pa_consD (pe_v (pv 1)) (pa_consD (pe_v (pv 4)) pa_nilD))))))
  (pss_consD (ps_parD (i := 6) (j := 7) rfl sc_law.nd rfl rfl (by decide) rfl rfl (pa_consV (pe_rv (pe_bD (call_reprEE hg (hu64 hr)) (by rfl) B.b_repr bt_repr (pa_consD (pe_v (pv 3)) pa_nilD))) (pa_consV (pe_rv (pe_kT D__law_draw hg hr (by rfl) (pa_consD (pe_v (pv 1)) (pa_consD (pe_v (pv 5)) pa_nilD)))) pa_nilV)) rfl)
  (pss_consD (ps_setD (i := 8) sc_law.nd rfl (Or.inl rfl) (pe_rv (pe_bD (call_reprEE hg (hu64 hr)) (by rfl) B.b_repr bt_repr (pa_consD (pe_keep (pe_lstD (pa_consD (pe_kP D__law_written_none hg hr (by rfl) (pa_consD (pe_v (pv 3)) (pa_consD (pe_v (pv 5)) pa_nilD))) (pa_consD (pe_kP D__law_ones hg hr (by rfl) (pa_consD (pe_v (pv 3)) (pa_consD (pe_v (pv 7)) pa_nilD))) (pa_consD (pe_kP D__law_all_ones hg hr (by rfl) (pa_consD (pe_v (pv 3)) (pa_consD (pe_v (pv 5)) pa_nilD))) pa_nilD))))) pa_nilD))))
  (pss_consD (ps_setD (i := 9) sc_law.nd rfl (Or.inl rfl) (pe_rv (pe_keep (pe_lstD (pa_consD (pe_v (pv 3)) (pa_consD (pe_ixD (ix_D (hu_of hr)) (pe_kT D__law_renamed hg hr (by rfl) (pa_consD (pe_v (pv 1)) (pa_consD (pe_v (pv 3)) pa_nilD))) pe_cI (by intro _ _; rfl)) (pa_consD (pe_ixD (ix_D (hu_of hr)) (pe_kT D__law_doubled hg hr (by rfl) (pa_consD (pe_v (pv 1)) (pa_consD (pe_v (pv 3)) pa_nilD))) pe_cI (by intro _ _; rfl)) (pa_consD (pe_kP D__law_least hg hr (by rfl) (pa_consD (pe_v (pv 3)) pa_nilD)) pa_nilD))))))))
  (pss_consD (ps_forD PassesOwn.never rfl (pi_seqD rfl (pe_bin op_addD (pe_v (pv 9)) (pe_keep (pe_lstD (pa_consD (pe_kP D_least hg hr (by rfl) (pa_consD (pe_v (pv 3)) pa_nilD)) pa_nilD))))) (pg_nm (ks := [10]) (by decide) (pg_name (i := 10) sc_law.nd rfl (Or.inl rfl))) (pss_oneD (ps_ifD (pt_cmpD (op_neDD (hu64 hr)) (pe_bD (call_reprEE hg (hu64 hr)) (by rfl) B.b_repr bt_repr (pa_consD (pe_keep (pe_lstD (pa_consD (pe_kP D_noughts hg hr (by rfl) (pa_consD (pe_v (pv 10)) (pa_consD (pe_v (pv 5)) pa_nilD))) (pa_consD (pe_kP D_ones_at hg hr (by rfl) (pa_consD (pe_v (pv 10)) (pa_consD (pe_v (pv 7)) pa_nilD))) (pa_consD (pe_kP D_ones_in_all hg hr (by rfl) (pa_consD (pe_v (pv 10)) (pa_consD (pe_v (pv 5)) pa_nilD))) pa_nilD))))) pa_nilD)) (pe_v (pv 8)) (nomark _)) (pss_oneD (ps_retD pe_cB)) pss_nilD)))
  (pss_oneD (ps_ifD ((pw_orD (pt_notD (pt_b (pe_kT D__law_are_lots_right hg hr (by rfl) (pa_consD (pe_v (pv 1)) (pa_consD (pe_v (pv 3)) (pa_consD (pe_v (pv 5)) pa_nilD)))))) (pw_or1 (pt_cmpD (op_neDD (hu64 hr)) (pe_bD (call_reprEE hg (hu64 hr)) (by rfl) B.b_repr bt_repr (pa_consD (pe_v (pv 3)) pa_nilD)) (pe_v (pv 6)) (nomark _))))).pt (pss_oneD (ps_retD pe_cB)) pss_nilD))))))))))
  (pss_oneD (ps_retD pe_cB)))) hlaw⟩

/-! ### the top -/
theorem all_mk {l : PySem.W.OpenLaw} {w : World} {K : PySem.W.Frag} {h : Heap} {mg : Str → Option Value} {fa f0 f1 f2 f3 f4 f5 f6 f7 f8 f9 f10 f11 f12 f13 f14 f15 f16 f17 f18 f19 f20 f21 f22 f23 f24 : Addr} {od0 an0 od1 an1 od2 an2 od3 an3 od4 an4 od5 an5 od6 an6 od7 an7 od8 an8 od9 an9 od10 an10 od11 an11 od12 an12 od13 an13 od14 an14 od15 an15 od16 an16 od17 an17 od18 an18 od19 an19 od20 an20 od21 an21 od22 an22 od23 an23 od24 an24 : Option Addr} {sl0 sl1 sl2 sl3 sl4 sl5 sl6 sl7 sl8 sl9 sl10 sl11 sl12 sl13 sl14 sl15 sl16 sl17 sl18 sl19 sl20 sl21 sl22 sl23 sl24 : Array (Option Value)} {oc0 kV0 dc0 pm0 cd0 ct0 oc1 kV1 dc1 pm1 cd1 ct1 oc2 kV2 dc2 pm2 cd2 ct2 oc3 kV3 dc3 pm3 cd3 ct3 oc4 kV4 dc4 pm4 cd4 ct4 oc5 kV5 dc5 pm5 cd5 ct5 oc6 kV6 dc6 pm6 cd6 ct6 oc7 kV7 dc7 pm7 cd7 ct7 oc8 kV8 dc8 pm8 cd8 ct8 oc9 kV9 dc9 pm9 cd9 ct9 oc10 kV10 dc10 pm10 cd10 ct10 oc11 kV11 dc11 pm11 cd11 ct11 oc12 kV12 dc12 pm12 cd12 ct12 oc13 kV13 dc13 pm13 cd13 ct13 oc14 kV14 dc14 pm14 cd14 ct14 oc15 kV15 dc15 pm15 cd15 ct15 oc16 kV16 dc16 pm16 cd16 ct16 oc17 kV17 dc17 pm17 cd17 ct17 oc18 kV18 dc18 pm18 cd18 ct18 oc19 kV19 dc19 pm19 cd19 ct19 oc20 kV20 dc20 pm20 cd20 ct20 oc21 kV21 dc21 pm21 cd21 ct21 oc22 kV22 dc22 pm22 cd22 ct22 oc23 kV23 dc23 pm23 cd23 ct23 oc24 kV24 dc24 pm24 cd24 ct24 : Value} (X : K.In h) (G : h.Ns mainGlobals mg) (hfa : mg "law" = some (.ref fa))
    (a0 : PySem.W.nsIn K mainGlobals "_first_counts" = some (some (.ref f0)))
    (l0 : K.lookup f0 = some ⟨oc0, od0, .func (PySem.W.fnOf "_first_counts" "_first_counts" (defArgs s__first_counts) (defBody s__first_counts) (defScope s__first_counts) .none kV0 dc0 pm0 an0 cd0 ct0), sl0⟩)
    (c0 : PySem.W.codeIn K cd0 "_first_counts" = true) (k0 : PySem.W.keepIn K (.ref f0) = true)
    (a1 : PySem.W.nsIn K mainGlobals "_counts_behind" = some (some (.ref f1)))
    (l1 : K.lookup f1 = some ⟨oc1, od1, .func (PySem.W.fnOf "_counts_behind" "_counts_behind" (defArgs s__counts_behind) (defBody s__counts_behind) (defScope s__counts_behind) .none kV1 dc1 pm1 an1 cd1 ct1), sl1⟩)
    (c1 : PySem.W.codeIn K cd1 "_counts_behind" = true) (k1 : PySem.W.keepIn K (.ref f1) = true)
    (a2 : PySem.W.nsIn K mainGlobals "lots" = some (some (.ref f2)))
    (l2 : K.lookup f2 = some ⟨oc2, od2, .func (PySem.W.fnOf "lots" "lots" (defArgs s_lots) (defBody s_lots) (defScope s_lots) .none kV2 dc2 pm2 an2 cd2 ct2), sl2⟩)
    (c2 : PySem.W.codeIn K cd2 "lots" = true) (k2 : PySem.W.keepIn K (.ref f2) = true)
    (a3 : PySem.W.nsIn K mainGlobals "noughts" = some (some (.ref f3)))
    (l3 : K.lookup f3 = some ⟨oc3, od3, .func (PySem.W.fnOf "noughts" "noughts" (defArgs s_noughts) (defBody s_noughts) (defScope s_noughts) .none kV3 dc3 pm3 an3 cd3 ct3), sl3⟩)
    (c3 : PySem.W.codeIn K cd3 "noughts" = true) (k3 : PySem.W.keepIn K (.ref f3) = true)
    (a4 : PySem.W.nsIn K mainGlobals "ones_at" = some (some (.ref f4)))
    (l4 : K.lookup f4 = some ⟨oc4, od4, .func (PySem.W.fnOf "ones_at" "ones_at" (defArgs s_ones_at) (defBody s_ones_at) (defScope s_ones_at) .none kV4 dc4 pm4 an4 cd4 ct4), sl4⟩)
    (c4 : PySem.W.codeIn K cd4 "ones_at" = true) (k4 : PySem.W.keepIn K (.ref f4) = true)
    (a5 : PySem.W.nsIn K mainGlobals "ones_in_all" = some (some (.ref f5)))
    (l5 : K.lookup f5 = some ⟨oc5, od5, .func (PySem.W.fnOf "ones_in_all" "ones_in_all" (defArgs s_ones_in_all) (defBody s_ones_in_all) (defScope s_ones_in_all) .none kV5 dc5 pm5 an5 cd5 ct5), sl5⟩)
    (c5 : PySem.W.codeIn K cd5 "ones_in_all" = true) (k5 : PySem.W.keepIn K (.ref f5) = true)
    (a6 : PySem.W.nsIn K mainGlobals "_with_states" = some (some (.ref f6)))
    (l6 : K.lookup f6 = some ⟨oc6, od6, .func (PySem.W.fnOf "_with_states" "_with_states" (defArgs s__with_states) (defBody s__with_states) (defScope s__with_states) .none kV6 dc6 pm6 an6 cd6 ct6), sl6⟩)
    (c6 : PySem.W.codeIn K cd6 "_with_states" = true) (k6 : PySem.W.keepIn K (.ref f6) = true)
    (a7 : PySem.W.nsIn K mainGlobals "_in_order" = some (some (.ref f7)))
    (l7 : K.lookup f7 = some ⟨oc7, od7, .func (PySem.W.fnOf "_in_order" "_in_order" (defArgs s__in_order) (defBody s__in_order) (defScope s__in_order) .none kV7 dc7 pm7 an7 cd7 ct7), sl7⟩)
    (c7 : PySem.W.codeIn K cd7 "_in_order" = true) (k7 : PySem.W.keepIn K (.ref f7) = true)
    (a8 : PySem.W.nsIn K mainGlobals "_merged" = some (some (.ref f8)))
    (l8 : K.lookup f8 = some ⟨oc8, od8, .func (PySem.W.fnOf "_merged" "_merged" (defArgs s__merged) (defBody s__merged) (defScope s__merged) .none kV8 dc8 pm8 an8 cd8 ct8), sl8⟩)
    (c8 : PySem.W.codeIn K cd8 "_merged" = true) (k8 : PySem.W.keepIn K (.ref f8) = true)
    (a9 : PySem.W.nsIn K mainGlobals "_classes" = some (some (.ref f9)))
    (l9 : K.lookup f9 = some ⟨oc9, od9, .func (PySem.W.fnOf "_classes" "_classes" (defArgs s__classes) (defBody s__classes) (defScope s__classes) .none kV9 dc9 pm9 an9 cd9 ct9), sl9⟩)
    (c9 : PySem.W.codeIn K cd9 "_classes" = true) (k9 : PySem.W.keepIn K (.ref f9) = true)
    (a10 : PySem.W.nsIn K mainGlobals "least" = some (some (.ref f10)))
    (l10 : K.lookup f10 = some ⟨oc10, od10, .func (PySem.W.fnOf "least" "least" (defArgs s_least) (defBody s_least) (defScope s_least) .none kV10 dc10 pm10 an10 cd10 ct10), sl10⟩)
    (c10 : PySem.W.codeIn K cd10 "least" = true) (k10 : PySem.W.keepIn K (.ref f10) = true)
    (a11 : PySem.W.nsIn K mainGlobals "_law_tray" = some (some (.ref f11)))
    (l11 : K.lookup f11 = some ⟨oc11, od11, .func (PySem.W.fnOf "_law_tray" "_law_tray" (defArgs s__law_tray) (defBody s__law_tray) (defScope s__law_tray) .none kV11 dc11 pm11 an11 cd11 ct11), sl11⟩)
    (c11 : PySem.W.codeIn K cd11 "_law_tray" = true) (k11 : PySem.W.keepIn K (.ref f11) = true)
    (a12 : PySem.W.nsIn K mainGlobals "_law_draw" = some (some (.ref f12)))
    (l12 : K.lookup f12 = some ⟨oc12, od12, .func (PySem.W.fnOf "_law_draw" "_law_draw" (defArgs s__law_draw) (defBody s__law_draw) (defScope s__law_draw) .none kV12 dc12 pm12 an12 cd12 ct12), sl12⟩)
    (c12 : PySem.W.codeIn K cd12 "_law_draw" = true) (k12 : PySem.W.keepIn K (.ref f12) = true)
    (a13 : PySem.W.nsIn K mainGlobals "_law_pick" = some (some (.ref f13)))
    (l13 : K.lookup f13 = some ⟨oc13, od13, .func (PySem.W.fnOf "_law_pick" "_law_pick" (defArgs s__law_pick) (defBody s__law_pick) (defScope s__law_pick) .none kV13 dc13 pm13 an13 cd13 ct13), sl13⟩)
    (c13 : PySem.W.codeIn K cd13 "_law_pick" = true) (k13 : PySem.W.keepIn K (.ref f13) = true)
    (a14 : PySem.W.nsIn K mainGlobals "_law_mixed" = some (some (.ref f14)))
    (l14 : K.lookup f14 = some ⟨oc14, od14, .func (PySem.W.fnOf "_law_mixed" "_law_mixed" (defArgs s__law_mixed) (defBody s__law_mixed) (defScope s__law_mixed) .none kV14 dc14 pm14 an14 cd14 ct14), sl14⟩)
    (c14 : PySem.W.codeIn K cd14 "_law_mixed" = true) (k14 : PySem.W.keepIn K (.ref f14) = true)
    (a15 : PySem.W.nsIn K mainGlobals "_law_machine" = some (some (.ref f15)))
    (l15 : K.lookup f15 = some ⟨oc15, od15, .func (PySem.W.fnOf "_law_machine" "_law_machine" (defArgs s__law_machine) (defBody s__law_machine) (defScope s__law_machine) .none kV15 dc15 pm15 an15 cd15 ct15), sl15⟩)
    (c15 : PySem.W.codeIn K cd15 "_law_machine" = true) (k15 : PySem.W.keepIn K (.ref f15) = true)
    (a16 : PySem.W.nsIn K mainGlobals "_law_least" = some (some (.ref f16)))
    (l16 : K.lookup f16 = some ⟨oc16, od16, .func (PySem.W.fnOf "_law_least" "_law_least" (defArgs s__law_least) (defBody s__law_least) (defScope s__law_least) .none kV16 dc16 pm16 an16 cd16 ct16), sl16⟩)
    (c16 : PySem.W.codeIn K cd16 "_law_least" = true) (k16 : PySem.W.keepIn K (.ref f16) = true)
    (a17 : PySem.W.nsIn K mainGlobals "_law_counts" = some (some (.ref f17)))
    (l17 : K.lookup f17 = some ⟨oc17, od17, .func (PySem.W.fnOf "_law_counts" "_law_counts" (defArgs s__law_counts) (defBody s__law_counts) (defScope s__law_counts) .none kV17 dc17 pm17 an17 cd17 ct17), sl17⟩)
    (c17 : PySem.W.codeIn K cd17 "_law_counts" = true) (k17 : PySem.W.keepIn K (.ref f17) = true)
    (a18 : PySem.W.nsIn K mainGlobals "_law_written_none" = some (some (.ref f18)))
    (l18 : K.lookup f18 = some ⟨oc18, od18, .func (PySem.W.fnOf "_law_written_none" "_law_written_none" (defArgs s__law_written_none) (defBody s__law_written_none) (defScope s__law_written_none) .none kV18 dc18 pm18 an18 cd18 ct18), sl18⟩)
    (c18 : PySem.W.codeIn K cd18 "_law_written_none" = true) (k18 : PySem.W.keepIn K (.ref f18) = true)
    (a19 : PySem.W.nsIn K mainGlobals "_law_ones" = some (some (.ref f19)))
    (l19 : K.lookup f19 = some ⟨oc19, od19, .func (PySem.W.fnOf "_law_ones" "_law_ones" (defArgs s__law_ones) (defBody s__law_ones) (defScope s__law_ones) .none kV19 dc19 pm19 an19 cd19 ct19), sl19⟩)
    (c19 : PySem.W.codeIn K cd19 "_law_ones" = true) (k19 : PySem.W.keepIn K (.ref f19) = true)
    (a20 : PySem.W.nsIn K mainGlobals "_law_all_ones" = some (some (.ref f20)))
    (l20 : K.lookup f20 = some ⟨oc20, od20, .func (PySem.W.fnOf "_law_all_ones" "_law_all_ones" (defArgs s__law_all_ones) (defBody s__law_all_ones) (defScope s__law_all_ones) .none kV20 dc20 pm20 an20 cd20 ct20), sl20⟩)
    (c20 : PySem.W.codeIn K cd20 "_law_all_ones" = true) (k20 : PySem.W.keepIn K (.ref f20) = true)
    (a21 : PySem.W.nsIn K mainGlobals "_law_doubled" = some (some (.ref f21)))
    (l21 : K.lookup f21 = some ⟨oc21, od21, .func (PySem.W.fnOf "_law_doubled" "_law_doubled" (defArgs s__law_doubled) (defBody s__law_doubled) (defScope s__law_doubled) .none kV21 dc21 pm21 an21 cd21 ct21), sl21⟩)
    (c21 : PySem.W.codeIn K cd21 "_law_doubled" = true) (k21 : PySem.W.keepIn K (.ref f21) = true)
    (a22 : PySem.W.nsIn K mainGlobals "_law_renamed" = some (some (.ref f22)))
    (l22 : K.lookup f22 = some ⟨oc22, od22, .func (PySem.W.fnOf "_law_renamed" "_law_renamed" (defArgs s__law_renamed) (defBody s__law_renamed) (defScope s__law_renamed) .none kV22 dc22 pm22 an22 cd22 ct22), sl22⟩)
    (c22 : PySem.W.codeIn K cd22 "_law_renamed" = true) (k22 : PySem.W.keepIn K (.ref f22) = true)
    (a23 : PySem.W.nsIn K mainGlobals "_law_are_lots_right" = some (some (.ref f23)))
    (l23 : K.lookup f23 = some ⟨oc23, od23, .func (PySem.W.fnOf "_law_are_lots_right" "_law_are_lots_right" (defArgs s__law_are_lots_right) (defBody s__law_are_lots_right) (defScope s__law_are_lots_right) .none kV23 dc23 pm23 an23 cd23 ct23), sl23⟩)
    (c23 : PySem.W.codeIn K cd23 "_law_are_lots_right" = true) (k23 : PySem.W.keepIn K (.ref f23) = true)
    (a24 : PySem.W.nsIn K mainGlobals "law" = some (some (.ref f24)))
    (l24 : K.lookup f24 = some ⟨oc24, od24, .func (PySem.W.fnOf "law" "law" (defArgs s_law) (defBody s_law) (defScope s_law) .none kV24 dc24 pm24 an24 cd24 ct24), sl24⟩)
    (c24 : PySem.W.codeIn K cd24 "law" = true) (k24 : PySem.W.keepIn K (.ref f24) = true)
    (z_len : PySem.W.nsIn K mainGlobals "len" = some none)
    (z_zip : PySem.W.nsIn K mainGlobals "zip" = some none)
    (z_range : PySem.W.nsIn K mainGlobals "range" = some none)
    (z_tuple : PySem.W.nsIn K mainGlobals "tuple" = some none)
    (z_sum : PySem.W.nsIn K mainGlobals "sum" = some none)
    (z_abs : PySem.W.nsIn K mainGlobals "abs" = some none)
    (z_int : PySem.W.nsIn K mainGlobals "int" = some none)
    (z_list : PySem.W.nsIn K mainGlobals "list" = some none)
    (z_set : PySem.W.nsIn K mainGlobals "set" = some none)
    (z_sorted : PySem.W.nsIn K mainGlobals "sorted" = some none)
    (z_enumerate : PySem.W.nsIn K mainGlobals "enumerate" = some none)
    (z_repr : PySem.W.nsIn K mainGlobals "repr" = some none)
    {t_MAX_STATES : Tok} (y_MAX_STATES : PySem.W.nsIn K mainGlobals "MAX_STATES" = some (some (.int 24 t_MAX_STATES)))
    (hlaw : ∀ ns : List Int, ns.length ≤ 63 → (∀ z ∈ ns, Builtin.Int.intBits z ≤ 1048576) → ∃ t0, f__law_tray ns = some (trD "great" t0) ∧ ∃ t', m_law (entryL 11 1) t0 = some (.rt (.bool true), t')) :
    ∃ fd : FuncData, (∀ (s : Shared) (v : Value), BindsTo s fd ⟨[v], []⟩ [("script", v)]) ∧ ∀ base : Heap, K.In base → base.Ns mainGlobals mg → FnG l.prog w K mg base CX0 5 fa fd ["script"] (spLaw K 63) := by
  have e := hfa.symm.trans (PySem.W.mg_of X G a24)
  cases e
  have B : Blt mg := ⟨PySem.W.mg_none_of X G z_len, PySem.W.mg_none_of X G z_zip, PySem.W.mg_none_of X G z_range, PySem.W.mg_none_of X G z_tuple, PySem.W.mg_none_of X G z_sum, PySem.W.mg_none_of X G z_abs, PySem.W.mg_none_of X G z_int, PySem.W.mg_none_of X G z_list, PySem.W.mg_none_of X G z_set, PySem.W.mg_none_of X G z_sorted, PySem.W.mg_none_of X G z_enumerate, PySem.W.mg_none_of X G z_repr, ⟨_, PySem.W.mg_of X G y_MAX_STATES⟩⟩
  have F0 := fun_mk (st := s__first_counts) l0 c0 k0
  have F1 := fun_mk (st := s__counts_behind) l1 c1 k1
  have F2 := fun_mk (st := s_lots) l2 c2 k2
  have F3 := fun_mk (st := s_noughts) l3 c3 k3
  have F4 := fun_mk (st := s_ones_at) l4 c4 k4
  have F5 := fun_mk (st := s_ones_in_all) l5 c5 k5
  have F6 := fun_mk (st := s__with_states) l6 c6 k6
  have F7 := fun_mk (st := s__in_order) l7 c7 k7
  have F8 := fun_mk (st := s__merged) l8 c8 k8
  have F9 := fun_mk (st := s__classes) l9 c9 k9
  have F10 := fun_mk (st := s_least) l10 c10 k10
  have F11 := fun_mk (st := s__law_tray) l11 c11 k11
  have F12 := fun_mk (st := s__law_draw) l12 c12 k12
  have F13 := fun_mk (st := s__law_pick) l13 c13 k13
  have F14 := fun_mk (st := s__law_mixed) l14 c14 k14
  have F15 := fun_mk (st := s__law_machine) l15 c15 k15
  have F16 := fun_mk (st := s__law_least) l16 c16 k16
  have F17 := fun_mk (st := s__law_counts) l17 c17 k17
  have F18 := fun_mk (st := s__law_written_none) l18 c18 k18
  have F19 := fun_mk (st := s__law_ones) l19 c19 k19
  have F20 := fun_mk (st := s__law_all_ones) l20 c20 k20
  have F21 := fun_mk (st := s__law_doubled) l21 c21 k21
  have F22 := fun_mk (st := s__law_renamed) l22 c22 k22
  have F23 := fun_mk (st := s__law_are_lots_right) l23 c23 k23
  have F24 := fun_mk (st := s_law) l24 c24 k24
  refine ⟨PySem.W.fnOf "law" "law" (defArgs s_law) (defBody s_law) (defScope s_law) .none kV24 dc24 pm24 an24 cd24 ct24, fun s v => .of_eq rfl, fun base _ _ => ?_⟩
  have D0 := k__first_counts (P := l.prog) (w := w) (base := base) B F0 (PySem.W.mg_of X G a0)
  have D1 := k__counts_behind (P := l.prog) (w := w) (base := base) B F1 (PySem.W.mg_of X G a1)
  have D2 := k_lots (P := l.prog) (w := w) (base := base) B F2 (PySem.W.mg_of X G a2) D0 D1
  have D3 := k_noughts (P := l.prog) (w := w) (base := base) B F3 (PySem.W.mg_of X G a3) D0 D1
  have D4 := k_ones_at (P := l.prog) (w := w) (base := base) B F4 (PySem.W.mg_of X G a4) D1 D2
  have D5 := k_ones_in_all (P := l.prog) (w := w) (base := base) B F5 (PySem.W.mg_of X G a5) D0 D1
  have D6 := k__with_states (P := l.prog) (w := w) (base := base) B F6 (PySem.W.mg_of X G a6)
  have D7 := k__in_order (P := l.prog) (w := w) (base := base) B F7 (PySem.W.mg_of X G a7) D6
  have D8 := k__merged (P := l.prog) (w := w) (base := base) B F8 (PySem.W.mg_of X G a8) D6
  have D9 := k__classes (P := l.prog) (w := w) (base := base) B F9 (PySem.W.mg_of X G a9) D6
  have D10 := k_least (P := l.prog) (w := w) (base := base) B F10 (PySem.W.mg_of X G a10) D7 D8 D9
  have D11 := k__law_tray (P := l.prog) (w := w) (base := base) B F11 (PySem.W.mg_of X G a11)
  have D12 := k__law_draw (P := l.prog) (w := w) (base := base) B F12 (PySem.W.mg_of X G a12)
  have D13 := k__law_pick (P := l.prog) (w := w) (base := base) B F13 (PySem.W.mg_of X G a13) D12
  have D14 := k__law_mixed (P := l.prog) (w := w) (base := base) B F14 (PySem.W.mg_of X G a14) D12
  have D15 := k__law_machine (P := l.prog) (w := w) (base := base) B F15 (PySem.W.mg_of X G a15) D12 D13
  have D16 := k__law_least (P := l.prog) (w := w) (base := base) B F16 (PySem.W.mg_of X G a16)
  have D17 := k__law_counts (P := l.prog) (w := w) (base := base) B F17 (PySem.W.mg_of X G a17)
  have D18 := k__law_written_none (P := l.prog) (w := w) (base := base) B F18 (PySem.W.mg_of X G a18)
  have D19 := k__law_ones (P := l.prog) (w := w) (base := base) B F19 (PySem.W.mg_of X G a19) D17
  have D20 := k__law_all_ones (P := l.prog) (w := w) (base := base) B F20 (PySem.W.mg_of X G a20)
  have D21 := k__law_doubled (P := l.prog) (w := w) (base := base) B F21 (PySem.W.mg_of X G a21) D14 D12 D13
  have D22 := k__law_renamed (P := l.prog) (w := w) (base := base) B F22 (PySem.W.mg_of X G a22) D14
  have D23 := k__law_are_lots_right (P := l.prog) (w := w) (base := base) B F23 (PySem.W.mg_of X G a23) D21 D22 D2
  have D24 := k_law (P := l.prog) (w := w) (base := base) B F24 (PySem.W.mg_of X G a24) D11 D15 D13 D12 D20 D19 D18 D16 D21 D22 D10 D5 D4 D3 D23 hlaw
  exact D24.G
end Mi.K10
namespace Mi.MD
open PySem L2

def m__with_states : MS Unit :=
  (mRet (mCall tupleD (mCons (mKeep (mLc (mItems (mV 0)) (gT (gs1 (gN 2) (gs1 (gN 3) gs0)) 2) mYes (mTup (mCons (mBin ixD (mV 1) (mV 2)) (mCons (mV 3) mNil))) [2, 3])) mNil)))
def f__with_states : List PyData → Option PyData := mFun 4 [true, true] m__with_states

def m__in_order : MS Unit :=
  (mSeq (mSet 1 (mNew (mLst (mCons (mC (.int 0)) mNil))))
  (mSeq (mSet 2 (mNew (mDict [.inl 0] (mCons (mC (.int 0)) mNil))))
  (mSeq (mSet 3 (mRv (mC (.int 0))))
  (mSeq (whileN (mTest (mBin ltD (mV 3) (mCall lenD (mCons (mV 1) mNil)))) (mSeq (mSet 4 (mRv (mBin ixD (mV 0) (mBin ixD (mV 1) (mV 3)))))
  (mSeq (mFor (mItems (mV 4)) (gT (gs1 (gN 5) (gs1 (gN 6) gs0)) 2) (mIfS (mTest (mBin notInDct (mV 5) (mV 2))) (mSeq (mDNew 2 (mV 5) (mCall lenD (mCons (mV 1) mNil)))
  (mApp 1 (mV 5))) mSkip))
  (mAug 3 addI (mC (.int 1))))) 100)
  (mRet (mCall tupleD (mCons (mKeep (mLcO 1 (gN 7) mYes (mCallP [true, true] f__with_states (mCons (mBin ixD (mV 0) (mV 7)) (mCons (mV 2) mNil))) [7])) mNil)))))))
def f__in_order : List PyData → Option PyData := mFun 8 [true] m__in_order

def m__merged : MS Unit :=
  (mSeq (mSet 2 (mNew (mLst mNil)))
  (mSeq (mFor (mZip3 (mV 0) (mV 1)) (gT (gs1 (gN 3) (gs1 (gN 4) gs0)) 2) (mIfS (mTest (mBin eqD (mV 4) (mCall lenD (mCons (mV 2) mNil)))) (mApp 2 (mCallP [true, true] f__with_states (mCons (mV 3) (mCons (mV 1) mNil)))) mSkip))
  (mRet (mV 2))))
def f__merged : List PyData → Option PyData := mFun 5 [true, true] m__merged

def m__classes : MS Unit :=
  (mSeq (mSet 1 (mRv (mBin mulD (mKeep (mLst (mCons (mC (.int 0)) mNil))) (mCall lenD (mCons (mV 0) mNil)))))
  (whileN (mTest (mC (.bool true))) (mSeq (mSet 2 mKNew0)
  (mSeq (mSet 3 (mNew (mLst mNil)))
  (mSeq (mFor (mItems (mV 0)) (gN 4) (mAppK 3 2 (mKSetd 2 (mCallP [true, true] f__with_states (mCons (mV 4) (mCons (mV 1) mNil))) (mKLen 2))))
  (mSeq (mIfS (mTest (mBin gtD (mKLen 2) (mC (.int 24)))) mStop mSkip)
  (mSeq (mIfS (mTest (mBin eqD (mV 3) (mV 1))) (mRet (mV 1)) mSkip)
  (mFz 3 (mSet 1 (mRv (mV 3))))))))) 700))
def f__classes : List PyData → Option PyData := mFun 5 [true] m__classes

def m_least : MS Unit :=
  (mSeq (mAsg (mV 0) (gT (gs1 (gN 1) (gs1 (gN 2) gs0)) 2))
  (mSeq (mSet 3 (mRv (mCallP [true] f__in_order (mCons (mV 2) mNil))))
  (mRet (mTup (mCons (mV 1) (mCons (mCallP [true] f__in_order (mCons (mCallP [true, true] f__merged (mCons (mV 3) (mCons (mCallP [true] f__classes (mCons (mV 3) mNil)) mNil))) mNil)) mNil))))))
def f_least : List PyData → Option PyData := mFun 4 [true] m_least

def m__law_least : MS Unit :=
  (mSeq (mAsg (mV 0) (gT (gs1 (gN 1) (gs1 (gN 2) gs0)) 2))
  (mSeq (mPars [3, 4] (mConsV (mRv (mKeep (mLc (mItems (mV 2)) (gN 12) mYes (mCall tupleD (mCons (mKeep (mLc (mItems (mV 12)) (gT (gs1 (gN 9) (gs1 (gN 10) gs0)) 2) mYes (mV 10) [9, 10])) mNil)) [12]))) (mConsV (mRv (mC (.int 0))) mNilV)))
  (mSeq (whileN (mTest (mBin neD (mCall lenSetD (mCons (mV 3) mNil)) (mV 4))) (mSeq (mSet 8 (mRv (mCall sortSetD (mCons (mV 3) mNil))))
  (mSeq (mSet 4 (mRv (mCall lenD (mCons (mV 8) mNil))))
  (mSeq (mSet 3 (mRv (mKeep (mLc (mItems (mV 3)) (gN 13) mYes (mMth idxM (mV 8) (mV 13)) [13]))))
  (mSet 3 (mRv (mKeep (mLc (mZip3 (mV 3) (mV 2)) (gT (gs1 (gN 13) (gs1 (gN 12) gs0)) 2) mYes (mBin addD (mTup (mCons (mV 13) mNil)) (mCall tupleD (mCons (mKeep (mLc (mItems (mV 12)) (gT (gs1 (gN 9) (gs1 (gN 10) gs0)) 2) mYes (mBin ixD (mV 3) (mV 9)) [9, 10])) mNil))) [13, 12]))))))) 700)
  (mSeq (mPar 5 6 (mConsV (mNew (mLst (mCons (mC (.int 0)) mNil))) (mConsV (mRv (mC (.int 0))) mNilV)))
  (mSeq (whileN (mTest (mBin ltD (mV 6) (mCall lenD (mCons (mV 5) mNil)))) (mSeq (mFor (mItems (mBin ixD (mV 2) (mBin ixD (mV 5) (mV 6)))) (gT (gs1 (gN 9) (gs1 (gN 10) gs0)) 2) (mIfS (mTest (mBin notInS (mBin ixD (mV 3) (mV 9)) (mKeep (mLcO 5 (gN 11) mYes (mBin ixD (mV 3) (mV 11)) [11])))) (mApp 5 (mV 9)) mSkip))
  (mSet 6 (mRv (mBin addD (mV 6) (mC (.int 1)))))) 700)
  (mSeq (mSet 7 (mRv (mKeep (mLcO 5 (gN 11) mYes (mBin ixD (mV 3) (mV 11)) [11]))))
  (mRet (mTup (mCons (mV 1) (mCons (mCall tupleD (mCons (mKeep (mLcO 5 (gN 11) mYes (mCall tupleD (mCons (mKeep (mLc (mItems (mBin ixD (mV 2) (mV 11))) (gT (gs1 (gN 9) (gs1 (gN 10) gs0)) 2) mYes (mTup (mCons (mMth idxM (mV 7) (mBin ixD (mV 3) (mV 9))) (mCons (mV 10) mNil))) [9, 10])) mNil)) [11])) mNil)) mNil))))))))))
def f__law_least : List PyData → Option PyData := mFun 14 [true] m__law_least

end Mi.MD
/-! The tray of the first family of laws: what it draws, in ints. -/
namespace Mi.TA
open PySem L2

def m__law_tray (ns : List Int) : MS Unit :=
  (mSeq (mPar 1 2 (mConsV (mRv (mKeep (mLc (mItems (mKeep (mScrCut ns 60 (mV 0)))) (gN 3) mYes (mBin addD (mBin mulD (mC (.int 2)) (mCall absD (mCons (mV 3) mNil))) (mCall intD (mCons (mBin ltD (mV 3) (mC (.int 0))) mNil))) [3]))) (mConsV (mRv (mBin addD (mC (.int 31013)) (mBin mulD (mC (.int 5)) (mScrLen ns (mV 0))))) mNilV)))
  (mSeq (mFor (mItems (mV 1)) (gN 3) (mSet 2 (mRv (mBin modD (mCall intD (mCons (mBin addD (mBin addD (mBin mulD (mV 2) (mC (.int 39373))) (mV 3)) (mC (.int 3))) mNil)) (mC (.int 4294967291))))))
  (mRet (mKeep (mDict [.inr "great", .inr "stirred", .inr "turn"] (mCons (mKeep (mLc (mItems (mV 1)) (gN 3) (mTest (mBin geD (mV 3) (mBin powD (mC (.int 10)) (mC (.int 15))))) (mV 3) [3])) (mCons (mV 2) (mCons (mC (.int 0)) mNil))))))))
def f__law_tray : List Int → Option PyData := mFunS 4 m__law_tray

def m__law_draw : MS Tr :=
  (mSeq (mIfS (mTest (mBin ltD (mV 1) (mC (.int 2)))) (mRet (mC (.int 0))) mSkip)
  (mSeq (mIfS (mFarNe (mFar (mV 0))) (mSeq (mSet 3 (mRv (mPop0 (mFar (mV 0)))))
  (mSeq (mIfS (mTest (mBin geD (mV 3) (mV 1))) (mIns0 (mFar (mV 0)) (mBin fdivD (mV 3) (mV 1))) mSkip)
  (mRet (mBin modD (mCall intD (mCons (mV 3) mNil)) (mV 1))))) mSkip)
  (mSeq (mTput "great" "turn" (mV 0) (mBin addD (mTget "great" "turn" (mV 0)) (mC (.int 1))))
  (mSeq (mSet 2 (mRv (mBin modD (mCall intD (mCons (mBin addD (mTget "great" "stirred" (mV 0)) (mBin mulD (mC (.int 2654435761)) (mTget "great" "turn" (mV 0)))) mNil)) (mC (.int 4294967279)))))
  (mSeq (mSet 2 (mRv (mBin modD (mCall intD (mCons (mBin addD (mBin addD (mBin mulD (mV 2) (mV 2)) (mBin mulD (mC (.int 48271)) (mTget "great" "turn" (mV 0)))) (mC (.int 21))) mNil)) (mC (.int 4294967291)))))
  (mSeq (mSet 2 (mRv (mBin modD (mCall intD (mCons (mBin addD (mBin mulD (mV 2) (mV 2)) (mTget "great" "stirred" (mV 0))) mNil)) (mC (.int 4294967231)))))
  (mRet (mBin modD (mCall intD (mCons (mBin fdivD (mV 2) (mC (.int 512))) mNil)) (mV 1)))))))))
def f__law_draw : Tr → List PyData → Option (PyData × Tr) := mFunT 4 [true] m__law_draw

def m__law_pick : MS Tr :=
  (mRet (mBin ixD (mV 1) (mCallT [true] f__law_draw (mCons (mV 0) (mCons (mCall lenD (mCons (mV 1) mNil)) mNil)))))
def f__law_pick : Tr → List PyData → Option (PyData × Tr) := mFunT 2 [true] m__law_pick

def m__law_machine : MS Tr :=
  (mSeq (mPar 3 4 (mConsV (mNew (mLst mNil)) (mConsV (mRv (mCallT [true] f__law_draw (mCons (mV 0) (mCons (mC (.int 3)) mNil)))) mNilV)))
  (mSeq (mFor (mRange1 (mCons (mV 1) mNil)) (gN 5) (mSeq (mSet 6 (mNew (mLst mNil)))
  (mSeq (mFor (mRange1 (mCons (mBin shlD (mC (.int 1)) (mV 2)) mNil)) (gN 7) (mSeq (mSet 8 (mRv (mCallT [true] f__law_draw (mCons (mV 0) (mCons (mV 1) mNil)))))
  (mSeq (mIfS (mAnd (mTest (mBin eqD (mV 4) (mC (.int 1)))) (mTest (mBin gtD (mCallT [true] f__law_draw (mCons (mV 0) (mCons (mC (.int 3)) mNil))) (mC (.int 0))))) (mSet 8 (mRv (mCallT [true] f__law_pick (mCons (mV 0) (mCons (mKeep (mLst (mCons (mV 5) (mCons (mBin modD (mCall intD (mCons (mBin addD (mV 5) (mC (.int 1))) mNil)) (mV 1)) mNil)))) mNil))))) mSkip)
  (mApp 6 (mTup (mCons (mV 8) (mCons (mCallT [true] f__law_draw (mCons (mV 0) (mCons (mC (.int 2)) mNil))) mNil)))))))
  (mApp 3 (mCall tupleD (mCons (mV 6) mNil))))))
  (mRet (mTup (mCons (mV 2) (mCons (mCall tupleD (mCons (mV 3) mNil)) mNil))))))
def f__law_machine : Tr → List PyData → Option (PyData × Tr) := mFunT 9 [true, true] m__law_machine

end Mi.TA
/-! What the first family's tray draws. -/
namespace Mi
open PySem L2
theorem bits_le {x : Int} {k : Nat} (h : x.natAbs < 2 ^ k) : Builtin.Int.intBits x ≤ k := by
  unfold Builtin.Int.intBits
  split
  · exact Nat.zero_le _
  · rename_i hx
    have hx : x ≠ 0 := by simpa using hx
    have : x.natAbs.log2 < k := (Nat.log2_lt (by omega)).mpr h
    omega
theorem mulI_ok {i j : Int} {a b : Nat} (h1 : i.natAbs < 2 ^ a) (h2 : j.natAbs < 2 ^ b) (h : a + b ≤ 134217728) : mulI i j = some (.int (i * j)) := by
  have q1 := bits_le h1
  have q2 := bits_le h2
  unfold mulI
  rw [if_pos (by omega)]
theorem log_small {m : Nat} (h : m < 2 ^ 4000) : m.log2 < 9000 := by
  by_cases z : m = 0
  · subst z; decide
  · have : m.log2 < 4000 := (Nat.log2_lt z).mpr h
    omega
namespace TA
def esOf (s k : Int) : List (Str × Int) := [(Str.ofString "stirred", s), (Str.ofString "turn", k)]
def TrOk (n : Int) (t : Tr) : Prop := ∃ s k : Int, t.es = esOf s k ∧ 0 ≤ s ∧ s < 4294967291 ∧ 0 ≤ k ∧ k ≤ n ∧ t.far.length ≤ 60
theorem TrOk.mono {n m : Int} {t : Tr} (h : TrOk n t) (le : n ≤ m) : TrOk m t := by
  obtain ⟨s, k, e, h1, h2, h3, h4, h5⟩ := h
  exact ⟨s, k, e, h1, h2, h3, by omega, h5⟩
theorem modI (x : Int) {M : Int} (h : 0 < M) : ∃ a : Int, x % M = a ∧ 0 ≤ a ∧ a < M := ⟨_, rfl, Int.emod_nonneg _ (by omega), Int.emod_lt_of_pos _ h⟩
theorem small_nat {a : Int} {k : Nat} (h0 : 0 ≤ a) (h : a < 2 ^ k) : a.natAbs < 2 ^ k := by
  obtain ⟨n, rfl⟩ := Int.eq_ofNat_of_zero_le h0
  rw [Int.natAbs_natCast]
  exact_mod_cast h
theorem k1 : Str.ofString "great" ≠ Str.ofString "turn" := by decide
theorem k2 : Str.ofString "great" ≠ Str.ofString "stirred" := by decide
theorem k3 : Str.ofString "stirred" ≠ Str.ofString "turn" := by decide
theorem draw_far {c : Int} {r : List Int} {es : List (Str × Int)} {m : Nat} (h2 : 2 ≤ m) (hm : m < 2 ^ 4000) (hl : r.length ≤ 59) : f__law_draw ⟨c :: r, es⟩ [.int m] = some (.int (c % m), ⟨if (m : Int) ≤ c then c / m :: r else r, es⟩) := by
  have e2 : ¬ ((m : Int) < 2) := by omega
  have hmod : 0 < m := by omega
  have hd : m.log2 < 9000 := log_small hm
  have hz : r.length < sizeLine := Nat.lt_of_le_of_lt hl (by decide)
  by_cases hc : (m : Int) ≤ c
  · simp [f__law_draw, mFunT, m__law_draw, entryT, slotsOf, mSeq, mIfS, mTest, mBin, mV, mC, rd, ltD, flat, mSkip, mFarNe, mFar, mSet, mRv, mPop0, geD, mIns0, fdivD, mRet, mCall, mCons, mNil, rds, intD, modD, e2, hc, hmod, hd, hz]
  · simp [f__law_draw, mFunT, m__law_draw, entryT, slotsOf, mSeq, mIfS, mTest, mBin, mV, mC, rd, ltD, flat, mSkip, mFarNe, mFar, mSet, mRv, mPop0, geD, mIns0, fdivD, mRet, mCall, mCons, mNil, rds, intD, modD, e2, hc, hmod, hd, hz]
theorem draw_turn {s k : Int} {m : Nat} (h2 : 2 ≤ m) (hs0 : 0 ≤ s) (hs : s < 4294967291) (hk0 : 0 ≤ k) (hk : k ≤ 1000000000) : ∃ r : Int, 0 ≤ r ∧ r < m ∧ f__law_draw ⟨[], esOf s k⟩ [.int m] = some (.int r, ⟨[], esOf s (k + 1)⟩) := by
  have e2 : ¬ ((m : Int) < 2) := by omega
  have hmod : 0 < m := by omega
  have em : mulI 2654435761 (k + 1) = some (.int (2654435761 * (k + 1))) := mulI_ok (a := 40) (b := 40) (by decide) (small_nat (by omega) (by omega)) (by decide)
  have em2 : mulI 48271 (k + 1) = some (.int (48271 * (k + 1))) := mulI_ok (a := 40) (b := 40) (by decide) (small_nat (by omega) (by omega)) (by decide)
  have sq : ∀ a : Int, 0 ≤ a → a < 4294967300 → mulI a a = some (.int (a * a)) := fun a h0 ha => mulI_ok (a := 40) (b := 40) (small_nat h0 (by omega)) (small_nat h0 (by omega)) (by decide)
  obtain ⟨a, ea, a0, ha⟩ := modI (s + 2654435761 * (k + 1)) (M := 4294967279) (by decide)
  obtain ⟨b, eb, b0, hb⟩ := modI (a * a + 48271 * (k + 1) + 21) (M := 4294967291) (by decide)
  obtain ⟨c, ec, c0, hc⟩ := modI (b * b + s) (M := 4294967231) (by decide)
  have sa := sq a a0 (by omega)
  have sb := sq b b0 (by omega)
  refine ⟨c / 512 % m, Int.emod_nonneg _ (by omega), Int.emod_lt_of_pos _ (by omega), ?_⟩
  unfold f__law_draw mFunT m__law_draw esOf
  rw [seq_nx (ρ1 := [some (.tray 0), some (.bor (.int m)), none, none]) (t1 := ⟨[], esOf s k⟩) (by simp [entryT, slotsOf, mIfS, mTest, mBin, mV, mC, rd, ltD, flat, mSkip, e2, esOf])]
  rw [seq_nx (ρ1 := [some (.tray 0), some (.bor (.int m)), none, none]) (t1 := ⟨[], esOf s k⟩) (by simp [mIfS, mFarNe, mFar, mV, mSkip])]
  rw [seq_nx (ρ1 := [some (.tray 0), some (.bor (.int m)), none, none]) (t1 := ⟨[], esOf s (k + 1)⟩) (by
    simp [mTput, mBin, mTget, mV, mC, rd, addD, tget, tput, k1, k3, esOf]
    decide)]
  rw [seq_nx (ρ1 := [some (.tray 0), some (.bor (.int m)), some (.fro (.int a)), none]) (t1 := ⟨[], esOf s (k + 1)⟩) (by
    simp [mSet, mRv, mBin, mTget, mCall, mCons, mNil, rds, intD, mV, mC, rd, addD, mulD, modD, tget, k1, k2, k3, esOf, em, ea])]
  rw [seq_nx (ρ1 := [some (.tray 0), some (.bor (.int m)), some (.fro (.int b)), none]) (t1 := ⟨[], esOf s (k + 1)⟩) (by
    simp [mSet, mRv, mBin, mTget, mCall, mCons, mNil, rds, intD, mV, mC, rd, addD, mulD, modD, tget, k1, k2, k3, esOf, em2, sa, eb])]
  rw [seq_nx (ρ1 := [some (.tray 0), some (.bor (.int m)), some (.fro (.int c)), none]) (t1 := ⟨[], esOf s (k + 1)⟩) (by
    simp [mSet, mRv, mBin, mTget, mCall, mCons, mNil, rds, intD, mV, mC, rd, addD, mulD, modD, tget, k1, k2, k3, esOf, sb, ec])]
  have l512 : Nat.log2 512 < 9000 := by decide
  simp [mRet, mBin, mCall, mCons, mNil, rds, intD, mV, mC, rd, fdivD, modD, flat, hmod, l512, esOf]
theorem draw_one {t : Tr} {m : Nat} (h2 : m < 2) : f__law_draw t [.int m] = some (.int 0, t) := by
  have e2 : (m : Int) < 2 := by omega
  simp [f__law_draw, mFunT, m__law_draw, entryT, slotsOf, mSeq, mIfS, mTest, mBin, mV, mC, rd, ltD, flat, mRet, e2]
/-- a draw -/
theorem draw {n : Int} {t : Tr} {m : Nat} (h : TrOk n t) (hn : n ≤ 1000000000) (hm : m < 2 ^ 4000) : ∃ (r : Nat) (t' : Tr), f__law_draw t [.int m] = some (.int r, t') ∧ TrOk (n + 1) t' ∧ (r < m ∨ (m < 2 ∧ r = 0)) := by
  by_cases h2 : m < 2
  · exact ⟨0, t, draw_one h2, h.mono (by omega), .inr ⟨h2, rfl⟩⟩
  · have h2 : 2 ≤ m := by omega
    obtain ⟨s, k, e, h0, h1, h3, h4, h5⟩ := h
    obtain ⟨far, es⟩ := t
    cases (show es = esOf s k from e)
    cases far with
    | nil =>
      obtain ⟨r, r0, rm, er⟩ := draw_turn h2 h0 h1 h3 (by omega)
      obtain ⟨r', rfl⟩ := Int.eq_ofNat_of_zero_le r0
      exact ⟨r', _, er, ⟨s, k + 1, rfl, h0, h1, by omega, by omega, Nat.zero_le _⟩, .inl (by omega)⟩
    | cons c rest =>
      have hl : rest.length ≤ 59 := by
        have : (c :: rest).length ≤ 60 := h5
        rw [List.length_cons] at this
        omega
      have hp : (0 : Int) < m := by omega
      obtain ⟨r', hr'⟩ := Int.eq_ofNat_of_zero_le (Int.emod_nonneg c (b := (m : Int)) (by omega))
      have hr2 := Int.emod_lt_of_pos c hp
      refine ⟨r', _, by rw [draw_far h2 hm hl, hr'], ⟨s, k, rfl, h0, h1, h3, by omega, ?_⟩, .inl (by omega)⟩
      show (if (m : Int) ≤ c then c / m :: rest else rest).length ≤ 60
      split
      · rw [List.length_cons]; omega
      · omega
/-- one of some -/
theorem pick {n : Int} {t : Tr} {xs : List PyData} (h : TrOk n t) (hn : n ≤ 1000000000) (hx : xs ≠ []) (hl : xs.length < 1000000) : ∃ (x : PyData) (t' : Tr), f__law_pick t [.list xs] = some (x, t') ∧ TrOk (n + 1) t' ∧ x ∈ xs := by
  obtain ⟨r, t', e, h', hr⟩ := draw (m := xs.length) h hn (Nat.lt_of_lt_of_le (Nat.lt_trans hl (by decide : 1000000 < 2 ^ 20)) (Nat.pow_le_pow_right (by decide) (by decide)))
  have hpos : 0 < xs.length := List.length_pos_iff.mpr hx
  have hr : r < xs.length := by
    rcases hr with hr | ⟨_, hr⟩
    · exact hr
    · omega
  refine ⟨xs[r], t', ?_, h', List.getElem_mem hr⟩
  have ha : atI xs (r : Int) = some xs[r] := atI_nat (List.getElem?_eq_getElem hr)
  simp [f__law_pick, mFunT, m__law_pick, entryT, slotsOf, mRet, mBin, mV, flat, mCallT, mCons, mNil, mCall, rds, rd, lenD, args, argOf, e, ixD, ha]
end TA
end Mi
/-! The first family's tray as it is made. -/
namespace Mi
open PySem L2
theorem cutI_le (ns : List Int) (n : Nat) : (cutI ns n).length ≤ n := by
  unfold cutI
  rw [List.length_take, HT.sIx_nat]
  omega
theorem cutI_mem {ns : List Int} {n z : Int} (h : z ∈ cutI ns n) : z ∈ ns := by
  unfold cutI at h
  exact List.mem_of_mem_drop (List.mem_of_mem_take h)
def intL (zs : List Int) : List PyData := zs.map .int
theorem intL_len (zs : List Int) : (intL zs).length = zs.length := List.length_map _
theorem intL_mem {zs : List Int} {d : PyData} (h : d ∈ intL zs) : ∃ z, z ∈ zs ∧ d = .int z := by
  obtain ⟨z, hz, rfl⟩ := List.mem_map.mp h
  exact ⟨z, hz, rfl⟩
theorem intL_map {zs : List Int} {h : PyData → PyData} {k : Int → Int} (e : ∀ z, h (.int z) = .int (k z)) : (intL zs).map h = intL (zs.map k) := by
  unfold intL
  rw [List.map_map, List.map_map]
  exact List.map_congr_left fun z _ => e z
theorem intL_filter {zs : List Int} {h : PyData → Bool} {k : Int → Bool} (e : ∀ z, h (.int z) = k z) : (intL zs).filter h = intL (zs.filter k) := by
  unfold intL
  rw [List.filter_map]
  congr 1
  exact List.filter_congr fun z _ => e z
theorem natAbs_abs (x : Int) : (if x < 0 then -x else x).natAbs = x.natAbs := by split <;> omega
theorem bits_abs (x : Int) : Builtin.Int.intBits (if x < 0 then -x else x) = Builtin.Int.intBits x := by
  have h := natAbs_abs x
  unfold Builtin.Int.intBits
  rw [h]
  have e : ((if x < 0 then -x else x) == 0) = (x == 0) := by
    by_cases hx : x = 0
    · subst hx; rfl
    · have : ¬ (if x < 0 then -x else x) = 0 := by split <;> omega
      rw [beq_eq_false_iff_ne.mpr hx, beq_eq_false_iff_ne.mpr this]
  rw [e]
namespace TA
def cellOf (z : Int) : Int := 2 * (if z < 0 then -z else z) + (if z < 0 then 1 else 0)
def cells (ns : List Int) : List Int := (cutI ns 60).map cellOf
theorem cells_le (ns : List Int) : (cells ns).length ≤ 60 := by
  unfold cells
  rw [List.length_map]
  exact cutI_le ns 60
theorem le60 {n : Nat} (h : n ≤ 60) : n ≤ sizeLine := Nat.le_trans h (by decide)
def mCell : ME Unit := mBin addD (mBin mulD (mC (.int 2)) (mCall absD (mCons (mV 3) mNil))) (mCall intD (mCons (mBin ltD (mV 3) (mC (.int 0))) mNil))
theorem cell_ok {z : Int} (hb : Builtin.Int.intBits z ≤ 1048576) {a b c : Option Val} : mCell [a, b, c, some (.fro (.int z))] () = some (.fro (.int (cellOf z)), ()) := by
  have b2 : Builtin.Int.intBits 2 ≤ 2 := bits_le (by decide)
  have em : mulI 2 (if z < 0 then -z else z) = some (.int (2 * (if z < 0 then -z else z))) := by
    unfold mulI
    rw [bits_abs, if_pos (by omega)]
  simp [mCell, mBin, mC, mCall, mCons, mNil, mV, rds, rd, absD, mulD, em, ltD, intD, addD, cellOf]
theorem tray1 (ns : List Int) (hb : ∀ z ∈ ns, Builtin.Int.intBits z ≤ 1048576) : mLc (T := Unit) (mItems (mKeep (mScrCut ns 60 (mV 0)))) (gN 3) mYes mCell [3] [some (.tray 0), none, none, none] () = some (.list (intL (cells ns)), ()) := by
  rw [mLc_map (ds := intL (cutI ns 60)) (t1 := ()) (fun d => match d with | .int z => .int (cellOf z) | d => d) rfl (by rw [intL_len]; exact le60 (cutI_le ns 60))]
  · rw [intL_map (k := cellOf) fun z => rfl]
    rfl
  · intro d hd
    obtain ⟨z, hz, rfl⟩ := intL_mem hd
    exact ⟨_, rfl, cell_ok (hb z (cutI_mem hz))⟩
def mStir : MS Unit := mSet 2 (mRv (mBin modD (mCall intD (mCons (mBin addD (mBin addD (mBin mulD (mV 2) (mC (.int 39373))) (mV 3)) (mC (.int 3))) mNil)) (mC (.int 4294967291))))
theorem stir_ok {a b : Option Val} {s z : Int} (h0 : 0 ≤ s) (h1 : s < 4294967291) : mStir [a, b, some (.fro (.int s)), some (.fro (.int z))] () = some (.nx [a, b, some (.fro (.int ((s * 39373 + z + 3) % 4294967291))), some (.fro (.int z))], ()) := by
  have em : mulD (.int s) (.int 39373) = some (.int (s * 39373)) := mulI_ok (a := 40) (b := 40) (small_nat h0 (by omega)) (by decide) (by decide)
  exact ev_set (ev_rv (ev_bin (ev_call (ev_cons (ev_bin (ev_bin (ev_bin (r1 := .fro (.int s)) rfl rfl rfl rfl em) (r2 := .fro (.int z)) rfl rfl rfl (z := .int (s * 39373 + z)) rfl) rfl rfl rfl (z := .int (s * 39373 + z + 3)) rfl) ev_nil) rfl (z := .int (s * 39373 + z + 3)) rfl) rfl rfl rfl (mod_ok (by decide))))
theorem tray2 (cs : List Int) (s0 : Int) (h0 : 0 ≤ s0) (h1 : s0 < 4294967291) : ∃ (s : Int) (x : Option Val), 0 ≤ s ∧ s < 4294967291 ∧ mFor (T := Unit) (mItems (mV 1)) (gN 3) mStir [some (.tray 0), some (.fro (.list (intL cs))), some (.fro (.int s0)), none] () = some (.nx [some (.tray 0), some (.fro (.list (intL cs))), some (.fro (.int s)), x], ()) := by
  obtain ⟨ρ', t', e, s, x, h0, h1, rfl⟩ := mFor_ind (T := Unit) (its := mItems (mV 1)) (g := gN 3) (body := mStir)
    (ρ := [some (.tray 0), some (.fro (.list (intL cs))), some (.fro (.int s0)), none]) (t := ()) (t1 := ()) (ds := intL cs) (fun _ ρ _ => ∃ (s : Int) (x : Option Val), 0 ≤ s ∧ s < 4294967291 ∧ ρ = [some (.tray 0), some (.fro (.list (intL cs))), some (.fro (.int s)), x]) rfl ⟨_, none, h0, h1, rfl⟩ (by
      rintro j d ρ t hj ⟨s, x, h0, h1, rfl⟩
      obtain ⟨z, hz, rfl⟩ := intL_mem (List.mem_of_getElem? hj)
      exact ⟨_, _, (), rfl, stir_ok h0 h1, _, some (.fro (.int z)), Int.emod_nonneg _ (by omega), Int.emod_lt_of_pos _ (by decide), rfl⟩)
  exact ⟨s, x, h0, h1, e⟩
def isFar (z : Int) : Bool := decide (1000000000000000 ≤ z)
theorem tray3 (cs : List Int) (hl : cs.length ≤ 60) {a c d : Option Val} : mLc (T := Unit) (mItems (mV 1)) (gN 3) (mTest (mBin geD (mV 3) (mBin powD (mC (.int 10)) (mC (.int 15))))) (mV 3) [3] [a, some (.fro (.list (intL cs))), c, d] () = some (.list (intL (cs.filter isFar)), ()) := by
  rw [mLc_filt (ds := intL cs) (t1 := ()) (fun d => match d with | .int z => isFar z | _ => false) id rfl (by rw [intL_len]; exact le60 hl)]
  · rw [List.map_id, intL_filter (k := isFar) fun z => rfl]
  · intro d hd
    obtain ⟨z, hz, rfl⟩ := intL_mem hd
    refine ⟨_, rfl, ?_, fun _ => rfl⟩
    simp [wipeR, mTest, mBin, mV, mC, rd, powD, geD, isFar]
theorem tray (ns : List Int) (hl : ns.length ≤ 63) (hb : ∀ z ∈ ns, Builtin.Int.intBits z ≤ 1048576) : ∃ t0, f__law_tray ns = some (trD "great" t0) ∧ TrOk 0 t0 := by
  have em : mulI 5 (ns.length : Int) = some (.int (5 * (ns.length : Int))) := mulI_ok (a := 10) (b := 10) (by decide) (by rw [Int.natAbs_natCast]; omega) (by decide)
  have step1 : mPar (T := Unit) 1 2 (mConsV (mRv (mKeep (mLc (mItems (mKeep (mScrCut ns 60 (mV 0)))) (gN 3) mYes mCell [3]))) (mConsV (mRv (mBin addD (mC (.int 31013)) (mBin mulD (mC (.int 5)) (mScrLen ns (mV 0))))) mNilV))
      [some (.tray 0), none, none, none] () = some (.nx [some (.tray 0), some (.fro (.list (intL (cells ns)))), some (.fro (.int (31013 + 5 * (ns.length : Int)))), none], ()) := by
    simp [mPar, mConsV, mRv, mKeep, tray1 ns hb, mBin, mC, mScrLen, mV, rd, mulD, em, addD, mNilV]
  obtain ⟨s, x, h0, h1, step2⟩ := tray2 (cells ns) (31013 + 5 * (ns.length : Int)) (by omega) (by omega)
  refine ⟨⟨(cells ns).filter isFar, esOf s 0⟩, ?_, ⟨s, 0, rfl, h0, h1, Int.le_refl 0, Int.le_refl 0, Nat.le_trans (List.length_filter_le _ _) (cells_le ns)⟩⟩
  have e3 := tray3 (cells ns) (cells_le ns) (a := some (.tray 0)) (c := some (.fro (.int s))) (d := x)
  have nd : (([.inr "great", .inr "stirred", .inr "turn"] : List Key).Nodup ∧ ([.inr "great", .inr "stirred", .inr "turn"] : List Key).length ≤ 15) := by decide
  have step3 : mRet (T := Unit) (mKeep (mDict [.inr "great", .inr "stirred", .inr "turn"] (mCons (mKeep (mLc (mItems (mV 1)) (gN 3) (mTest (mBin geD (mV 3) (mBin powD (mC (.int 10)) (mC (.int 15))))) (mV 3) [3])) (mCons (mV 2) (mCons (mC (.int 0)) mNil)))))
      [some (.tray 0), some (.fro (.list (intL (cells ns)))), some (.fro (.int s)), x] () = some (.rt (trD "great" ⟨(cells ns).filter isFar, esOf s 0⟩), ()) := by
    exact ev_ret (ev_keep ((ev_dict (ds := [.list (intL ((cells ns).filter isFar)), .int s, .int 0]) (ev_cons (ev_keep e3) (ev_cons (r := .fro (.int s)) rfl (ev_cons (r := .fro (.int 0)) rfl ev_nil))) rfl ⟨rfl, nd⟩).trans rfl))
  unfold f__law_tray mFunS m__law_tray
  have e0 : (some (.tray 0) :: List.replicate (4 - 1) none : Env) = [some (.tray 0), none, none, none] := rfl
  rw [e0]
  have all : mSeq (T := Unit) (mPar 1 2 (mConsV (mRv (mKeep (mLc (mItems (mKeep (mScrCut ns 60 (mV 0)))) (gN 3) mYes mCell [3]))) (mConsV (mRv (mBin addD (mC (.int 31013)) (mBin mulD (mC (.int 5)) (mScrLen ns (mV 0))))) mNilV))) (mSeq (mFor (mItems (mV 1)) (gN 3) mStir)
    (mRet (mKeep (mDict [.inr "great", .inr "stirred", .inr "turn"] (mCons (mKeep (mLc (mItems (mV 1)) (gN 3) (mTest (mBin geD (mV 3) (mBin powD (mC (.int 10)) (mC (.int 15))))) (mV 3) [3])) (mCons (mV 2) (mCons (mC (.int 0)) mNil))))))) [some (.tray 0), none, none, none] () = some (.rt (trD "great" ⟨(cells ns).filter isFar, esOf s 0⟩), ()) := by
    rw [seq_nx step1, seq_nx step2, step3]
  unfold mCell mStir at all
  rw [all]
end TA
end Mi
/-! Machines as the first family's laws make them. -/
namespace Mi
open PySem L2
def pairD (p : Nat × Nat) : PyData := .tuple [.int p.1, .int p.2]
def rowD (r : List (Nat × Nat)) : PyData := .tuple (r.map pairD)
def machD (many : Nat) (M : List (List (Nat × Nat))) : PyData := .tuple [.int many, .tuple (M.map rowD)]
structure OkRow (many n : Nat) (r : List (Nat × Nat)) : Prop where
  len : r.length = 2 ^ many
  goal : ∀ p ∈ r, p.1 < n
  bit : ∀ p ∈ r, p.2 < 2
structure OkM (many : Nat) (M : List (List (Nat × Nat))) : Prop where
  pos : 0 < M.length
  row : ∀ r ∈ M, OkRow many M.length r
theorem mV_tray {T : Type} {ρ : Env} {t : T} {i k : Nat} (h : ρ[i]? = some (some (.tray k))) : mV i ρ t = some (.tray k, t) := by
  unfold mV
  rw [h]
theorem pow_small {m : Nat} (h : m ≤ 1000000) : m < 2 ^ 4000 := Nat.lt_of_lt_of_le (Nat.lt_of_le_of_lt h (by decide : 1000000 < 2 ^ 20)) (Nat.pow_le_pow_right (by decide) (by decide))
namespace TA
theorem draw_call {n : Int} {t : Tr} {m : Nat} {ρ : Env} {fe : ME Tr} {r0 : Rv} (h0 : ρ[0]? = some (some (.tray 0))) (he : fe ρ t = some (r0, t)) (hr : rd ρ r0 = some (.int m)) (hf : argOf ρ true r0 = some (.int m)) (h : TrOk n t) (hn : n ≤ 1000000000) (hm : m < 2 ^ 4000) :
    ∃ (r : Nat) (t' : Tr), mCallT [true] f__law_draw (mCons (mV 0) (mCons fe mNil)) ρ t = some (.fro (.int r), t') ∧ TrOk (n + 1) t' ∧ (r < m ∨ (m < 2 ∧ r = 0)) := by
  obtain ⟨r, t', e, h', hr'⟩ := draw h hn hm
  refine ⟨r, t', ev_callT (ev_cons (mV_tray h0) (ev_cons he ev_nil)) ?_ e, h', hr'⟩
  unfold args
  rw [hf]
  rfl
theorem pick_call {n : Int} {t : Tr} {ρ : Env} {fe : ME Tr} {xs : List PyData} (h0 : ρ[0]? = some (some (.tray 0))) (he : fe ρ t = some (.fro (.list xs), t)) (h : TrOk n t) (hn : n ≤ 1000000000) (hx : xs ≠ []) (hl : xs.length < 1000000) :
    ∃ (x : PyData) (t' : Tr), mCallT [true] f__law_pick (mCons (mV 0) (mCons fe mNil)) ρ t = some (.fro x, t') ∧ TrOk (n + 1) t' ∧ x ∈ xs := by
  obtain ⟨x, t', e, h', hx'⟩ := pick h hn hx hl
  exact ⟨x, t', ev_callT (ev_cons (mV_tray h0) (ev_cons he ev_nil)) rfl e, h', hx'⟩
section
variable {size many : Nat}
def envM (size many : Nat) (rows : List (List (Nat × Nat))) (way state : Nat) (row : List (Nat × Nat)) (x7 x8 : Option Val) : Env :=
  [some (.tray 0), some (.bor (.int size)), some (.bor (.int many)), some (.own (.list (rows.map rowD))), some (.fro (.int way)), some (.fro (.int state)), some (.own (.list (row.map pairD))), x7, x8]
def mStep : MS Tr := mSeq (mSet 8 (mRv (mCallT [true] f__law_draw (mCons (mV 0) (mCons (mV 1) mNil)))))
  (mSeq (mIfS (mAnd (mTest (mBin eqD (mV 4) (mC (.int 1)))) (mTest (mBin gtD (mCallT [true] f__law_draw (mCons (mV 0) (mCons (mC (.int 3)) mNil))) (mC (.int 0))))) (mSet 8 (mRv (mCallT [true] f__law_pick (mCons (mV 0) (mCons (mKeep (mLst (mCons (mV 5) (mCons (mBin modD (mCall intD (mCons (mBin addD (mV 5) (mC (.int 1))) mNil)) (mV 1)) mNil)))) mNil))))) mSkip)
  (mApp 6 (mTup (mCons (mV 8) (mCons (mCallT [true] f__law_draw (mCons (mV 0) (mCons (mC (.int 2)) mNil))) mNil)))))
theorem step {n : Int} {t : Tr} {rows : List (List (Nat × Nat))} {way state letter : Nat} {row : List (Nat × Nat)} {x8 : Option Val} (h : TrOk n t) (hn : n ≤ 900000000) (hs : 0 < size) (hz : size ≤ 1000) (hst : state < size) (hr : row.length < 1000) :
    ∃ (p : Nat × Nat) (x8' : Option Val) (t' : Tr), mStep (envM size many rows way state row (some (.fro (.int letter))) x8) t = some (.nx (envM size many rows way state (row ++ [p]) (some (.fro (.int letter))) x8'), t') ∧ TrOk (n + 4) t' ∧ p.1 < size ∧ p.2 < 2 := by
  obtain ⟨g, t1, e1, h1, b1⟩ := draw_call (ρ := envM size many rows way state row (some (.fro (.int letter))) x8) (fe := mV 1) (m := size) rfl rfl rfl rfl h (by omega) (pow_small (by omega))
  have b1 : g < size := by omega
  have s1 : mSet 8 (mRv (mCallT [true] f__law_draw (mCons (mV 0) (mCons (mV 1) mNil)))) (envM size many rows way state row (some (.fro (.int letter))) x8) t = some (.nx (envM size many rows way state row (some (.fro (.int letter))) (some (.fro (.int g)))), t1) := ev_set (ev_rv e1)
  obtain ⟨g', t2, e2, h2, b2⟩ : ∃ (g' : Nat) (t2 : Tr), mIfS (mAnd (mTest (mBin eqD (mV 4) (mC (.int 1)))) (mTest (mBin gtD (mCallT [true] f__law_draw (mCons (mV 0) (mCons (mC (.int 3)) mNil))) (mC (.int 0))))) (mSet 8 (mRv (mCallT [true] f__law_pick (mCons (mV 0) (mCons (mKeep (mLst (mCons (mV 5) (mCons (mBin modD (mCall intD (mCons (mBin addD (mV 5) (mC (.int 1))) mNil)) (mV 1)) mNil)))) mNil))))) mSkip
      (envM size many rows way state row (some (.fro (.int letter))) (some (.fro (.int g)))) t1 = some (.nx (envM size many rows way state row (some (.fro (.int letter))) (some (.fro (.int g')))), t2) ∧ TrOk (n + 3) t2 ∧ g' < size := by
    have c1 : mTest (mBin eqD (mV 4) (mC (.int 1))) (envM size many rows way state row (some (.fro (.int letter))) (some (.fro (.int g)))) t1 = some (((way : Int) == 1), t1) := ev_test (ev_bin (r1 := .fro (.int way)) rfl (r2 := .fro (.int 1)) rfl rfl rfl rfl)
    cases hw : ((way : Int) == 1) with
    | false =>
      rw [hw] at c1
      exact ⟨g, t1, by rw [if_f (ev_andF c1)]; rfl, h1.mono (by omega), b1⟩
    | true =>
      rw [hw] at c1
      obtain ⟨k, t2, e2, h2, b2⟩ := draw_call (ρ := envM size many rows way state row (some (.fro (.int letter))) (some (.fro (.int g)))) (fe := mC (.int 3)) (m := 3) rfl rfl rfl rfl h1 (by omega) (pow_small (by omega))
      have c2 : mTest (mBin gtD (mCallT [true] f__law_draw (mCons (mV 0) (mCons (mC (.int 3)) mNil))) (mC (.int 0))) (envM size many rows way state row (some (.fro (.int letter))) (some (.fro (.int g)))) t1 = some (decide ((0 : Int) < k), t2) := ev_test (ev_bin e2 (r2 := .fro (.int 0)) rfl rfl rfl rfl)
      cases hk : decide ((0 : Int) < k) with
      | false =>
        rw [hk] at c2
        exact ⟨g, t2, by rw [if_f (ev_andT c1 c2)]; rfl, h2.mono (by omega), b1⟩
      | true =>
        rw [hk] at c2
        have l1 : mKeep (mLst (mCons (mV 5) (mCons (mBin modD (mCall intD (mCons (mBin addD (mV 5) (mC (.int 1))) mNil)) (mV 1)) mNil))) (envM size many rows way state row (some (.fro (.int letter))) (some (.fro (.int g)))) t2 = some (.fro (.list [.int state, .int (((state : Int) + 1) % size)]), t2) :=
          ev_keep (ev_lst (rs := [.fro (.int state), .fro (.int (((state : Int) + 1) % size))]) (ev_cons rfl (ev_cons (ev_bin (ev_call (ev_cons (ev_bin (r1 := .fro (.int state)) rfl (r2 := .fro (.int 1)) rfl rfl rfl rfl) ev_nil) rfl (z := .int ((state : Int) + 1)) rfl) (r2 := .fro (.int size)) rfl rfl rfl (mod_ok (by omega))) ev_nil)) rfl (by show 2 ≤ sizeLine; decide))
        obtain ⟨x, t3, e3, h3, hx⟩ := pick_call (ρ := envM size many rows way state row (some (.fro (.int letter))) (some (.fro (.int g)))) rfl l1 h2 (by omega) (by simp) (by show 2 < 1000000; decide)
        obtain ⟨g', rfl, hg'⟩ : ∃ g' : Nat, x = .int g' ∧ g' < size := by
          rcases List.mem_cons.mp hx with rfl | hx
          · exact ⟨state, rfl, hst⟩
          · cases List.mem_singleton.mp hx
            refine ⟨(state + 1) % size, ?_, Nat.mod_lt _ hs⟩
            congr 1
        exact ⟨g', t3, by rw [if_t (ev_andT c1 c2)]; exact ev_set (ev_rv e3), h3.mono (by omega), hg'⟩
  obtain ⟨b, t3, e3, h3, b3⟩ := draw_call (ρ := envM size many rows way state row (some (.fro (.int letter))) (some (.fro (.int g')))) (fe := mC (.int 2)) (m := 2) rfl rfl rfl rfl h2 (by omega) (pow_small (by omega))
  refine ⟨(g', b), some (.fro (.int g')), t3, ?_, h3.mono (by omega), b2, by omega⟩
  unfold mStep
  rw [seq_nx s1, seq_nx e2]
  rw [ev_app (ds := row.map pairD) (ev_tup (ds := [.int g', .int b]) (ev_cons (r := .fro (.int g')) rfl (ev_cons e3 ev_nil)) rfl (by show 2 ≤ sizeLine; decide)) rfl (by rw [List.length_map]; exact Nat.lt_trans hr (by decide))]
  unfold envM
  rw [List.map_append]
  rfl
theorem row_loop {n : Int} {t : Tr} {rows : List (List (Nat × Nat))} {way state : Nat} {x7 x8 : Option Val} (h : TrOk n t) (hn : n ≤ 800000000) (hs : 0 < size) (hz : size ≤ 1000) (hst : state < size) (hm : many ≤ 3) :
    ∃ (row : List (Nat × Nat)) (y7 y8 : Option Val) (t' : Tr), mFor (mRange1 (mCons (mBin shlD (mC (.int 1)) (mV 2)) mNil)) (gN 7) mStep (envM size many rows way state [] x7 x8) t = some (.nx (envM size many rows way state row y7 y8), t') ∧ OkRow many size row ∧ TrOk (n + 32) t' := by
  have hp : 2 ^ many ≤ 8 := Nat.le_trans (Nat.pow_le_pow_right (by decide) hm) (by decide)
  have hi : mRange1 (mCons (mBin shlD (mC (.int 1)) (mV 2)) mNil) (envM size many rows way state [] x7 x8) t = some ((List.range (2 ^ many)).map fun (k : Nat) => PyData.int (k : Int), t) := by
    have e1 : shlD (.int 1) (.int many) = some (.int ((2 ^ many : Nat) : Int)) := by
      have b1 : Builtin.Int.intBits 1 ≤ 1 := bits_le (by decide)
      have : shlD (.int 1) (.int many) = some (.int (1 * 2 ^ (many : Int).toNat)) := if_pos ⟨by omega, by omega⟩
      rw [this, Int.toNat_natCast, Int.one_mul]
      push_cast
      rfl
    generalize 2 ^ many = N at e1 hp
    have e2 := ev_range1 (T := Tr) (ga := mCons (mBin shlD (mC (.int 1)) (mV 2)) mNil) (ρ := envM size many rows way state [] x7 x8) (t := t) (t1 := t) (j := (N : Int)) (ev_cons (ev_bin (r1 := .fro (.int 1)) rfl (r2 := .fro (.int many)) rfl rfl rfl e1) ev_nil) ⟨by omega, by omega⟩
    rw [Int.toNat_natCast] at e2
    exact e2
  obtain ⟨ρ', t', e, row, y7, y8, rfl, hl, hg, hb, ht⟩ := mFor_ind (g := gN 7) (body := mStep) (fun i ρ t => ∃ (row : List (Nat × Nat)) (y7 y8 : Option Val), ρ = envM size many rows way state row y7 y8 ∧ row.length = i ∧ (∀ p ∈ row, p.1 < size) ∧ (∀ p ∈ row, p.2 < 2) ∧ TrOk (n + 4 * i) t) hi ⟨[], x7, x8, rfl, rfl, fun _ h => (nomatch h), fun _ h => (nomatch h), h.mono (by omega)⟩ (by
    rintro j d ρ t hj ⟨row, y7, y8, rfl, hl, hg, hb, ht⟩
    have hjl : j < 2 ^ many := by
      have := (List.getElem?_eq_some_iff.mp hj).1
      rwa [List.length_map, List.length_range] at this
    rw [List.getElem?_map, List.getElem?_range hjl] at hj
    cases hj
    obtain ⟨p, x8', t2, e, h2, p1, p2⟩ := step (letter := j) (x8 := y8) (rows := rows) (way := way) (many := many) (row := row) ht (by omega) hs hz hst (by omega)
    refine ⟨_, _, t2, rfl, e, row ++ [p], _, _, rfl, by rw [List.length_append, hl]; rfl, fun q hq => ?_, fun q hq => ?_, h2.mono (by omega)⟩
    · rcases List.mem_append.mp hq with hq | hq
      · exact hg q hq
      · cases List.mem_singleton.mp hq; exact p1
    · rcases List.mem_append.mp hq with hq | hq
      · exact hb q hq
      · cases List.mem_singleton.mp hq; exact p2)
  rw [List.length_map, List.length_range] at hl ht
  exact ⟨row, y7, y8, t', e, ⟨hl, hg, hb⟩, ht.mono (by omega)⟩
def mRow : MS Tr := mSeq (mSet 6 (mNew (mLst mNil))) (mSeq (mFor (mRange1 (mCons (mBin shlD (mC (.int 1)) (mV 2)) mNil)) (gN 7) mStep) (mApp 3 (mCall tupleD (mCons (mV 6) mNil))))
theorem machine {n : Int} {t : Tr} (h : TrOk n t) (hn : n ≤ 700000000) (hs : 0 < size) (hz : size ≤ 100) (hm : many ≤ 3) :
    ∃ (M : List (List (Nat × Nat))) (t' : Tr), f__law_machine t [.int size, .int many] = some (machD many M, t') ∧ M.length = size ∧ OkM many M ∧ TrOk (n + 3300) t' := by
  obtain ⟨w, t1, e1, h1, _⟩ := draw_call (ρ := [some (.tray 0), some (.bor (.int size)), some (.bor (.int many)), none, none, none, none, none, none]) (fe := mC (.int 3)) (m := 3) rfl rfl rfl rfl h (by omega) (pow_small (by omega))
  have s1 : mPar 3 4 (mConsV (mNew (mLst mNil)) (mConsV (mRv (mCallT [true] f__law_draw (mCons (mV 0) (mCons (mC (.int 3)) mNil)))) mNilV)) [some (.tray 0), some (.bor (.int size)), some (.bor (.int many)), none, none, none, none, none, none] t =
      some (.nx [some (.tray 0), some (.bor (.int size)), some (.bor (.int many)), some (.own (.list [])), some (.fro (.int w)), none, none, none, none], t1) := ev_par (ev_consV (ev_new (ev_lst ev_nil rfl (Nat.zero_le _))) (ev_consV (ev_rv e1) rfl))
  obtain ⟨ρ', t', e, M, x5, x6, x7, x8, rfl, hl, ho, ht⟩ := mFor_ind (T := Tr) (its := mRange1 (mCons (mV 1) mNil)) (g := gN 5) (body := mRow) (ρ := [some (.tray 0), some (.bor (.int size)), some (.bor (.int many)), some (.own (.list [])), some (.fro (.int w)), none, none, none, none]) (t := t1) (t1 := t1) (ds := (List.range size).map fun (k : Nat) => PyData.int (k : Int))
    (fun i ρ t => ∃ (M : List (List (Nat × Nat))) (x5 x6 x7 x8 : Option Val), ρ = [some (.tray 0), some (.bor (.int size)), some (.bor (.int many)), some (.own (.list (M.map rowD))), some (.fro (.int w)), x5, x6, x7, x8] ∧ M.length = i ∧ (∀ r ∈ M, OkRow many size r) ∧ TrOk (n + 1 + 32 * i) t)
    (by
      have := ev_range1 (T := Tr) (ga := mCons (mV 1) mNil) (ρ := [some (.tray 0), some (.bor (.int size)), some (.bor (.int many)), some (.own (.list [])), some (.fro (.int w)), none, none, none, none]) (t := t1) (t1 := t1) (j := (size : Int)) rfl ⟨by omega, by omega⟩
      rw [Int.toNat_natCast] at this
      exact this)
    ⟨[], none, none, none, none, rfl, rfl, fun _ h => (nomatch h), h1.mono (by omega)⟩ (by
    rintro j d ρ t hj ⟨M, x5, x6, x7, x8, rfl, hl, ho, ht⟩
    have hjl : j < size := by
      have := (List.getElem?_eq_some_iff.mp hj).1
      rwa [List.length_map, List.length_range] at this
    rw [List.getElem?_map, List.getElem?_range hjl] at hj
    cases hj
    have q1 : mSet 6 (mNew (mLst mNil)) [some (.tray 0), some (.bor (.int size)), some (.bor (.int many)), some (.own (.list (M.map rowD))), some (.fro (.int w)), some (.fro (.int j)), x6, x7, x8] t = some (.nx (envM size many M w j [] x7 x8), t) := ev_set (ev_new (ev_lst ev_nil rfl (Nat.zero_le _)))
    obtain ⟨row, y7, y8, t2, q2, hr, h2⟩ := row_loop (rows := M) (way := w) (x7 := x7) (x8 := x8) ht (by omega) hs (by omega) hjl hm
    have q3 : mApp 3 (mCall tupleD (mCons (mV 6) mNil)) (envM size many M w j row y7 y8) t2 = some (.nx [some (.tray 0), some (.bor (.int size)), some (.bor (.int many)), some (.own (.list ((M ++ [row]).map rowD))), some (.fro (.int w)), some (.fro (.int j)), some (.own (.list (row.map pairD))), y7, y8], t2) := by
      rw [ev_app (ds := M.map rowD) (ev_call (ev_cons (r := .loan 6) rfl ev_nil) rfl (z := rowD row) rfl) rfl (by rw [List.length_map]; exact Nat.lt_of_le_of_lt (show M.length ≤ 100 by omega) (by decide)), List.map_append]
      rfl
    refine ⟨_, _, t2, rfl, ?_, M ++ [row], some (.fro (.int j)), some (.own (.list (row.map pairD))), y7, y8, rfl, by rw [List.length_append, hl]; rfl, fun r hr' => ?_, h2.mono (by omega)⟩
    · show mRow [some (.tray 0), some (.bor (.int size)), some (.bor (.int many)), some (.own (.list (M.map rowD))), some (.fro (.int w)), some (.fro (.int j)), x6, x7, x8] t = _
      unfold mRow
      rw [seq_nx q1, seq_nx q2, q3]
    · rcases List.mem_append.mp hr' with hr' | hr'
      · exact ho r hr'
      · cases List.mem_singleton.mp hr'; exact hr)
  rw [List.length_map, List.length_range] at hl ht
  refine ⟨M, t', ?_, hl, ⟨by omega, fun r hr => by rw [hl]; exact ho r hr⟩, ht.mono (by omega)⟩
  have s3 : mRet (T := Tr) (mTup (mCons (mV 2) (mCons (mCall tupleD (mCons (mV 3) mNil)) mNil))) [some (.tray 0), some (.bor (.int size)), some (.bor (.int many)), some (.own (.list (M.map rowD))), some (.fro (.int w)), x5, x6, x7, x8] t' = some (.rt (machD many M), t') :=
    ev_ret (ev_tup (ds := [.int many, .tuple (M.map rowD)]) (ev_cons (r := .fro (.int many)) rfl (ev_cons (ev_call (ev_cons (r := .loan 3) rfl ev_nil) rfl (z := .tuple (M.map rowD)) rfl) ev_nil)) rfl (by show 2 ≤ sizeLine; decide))
  have all : mSeq (mPar 3 4 (mConsV (mNew (mLst mNil)) (mConsV (mRv (mCallT [true] f__law_draw (mCons (mV 0) (mCons (mC (.int 3)) mNil)))) mNilV))) (mSeq (mFor (mRange1 (mCons (mV 1) mNil)) (gN 5) mRow) (mRet (mTup (mCons (mV 2) (mCons (mCall tupleD (mCons (mV 3) mNil)) mNil))))) [some (.tray 0), some (.bor (.int size)), some (.bor (.int many)), none, none, none, none, none, none] t = some (.rt (machD many M), t') := by
    rw [seq_nx s1, seq_nx e, s3]
  unfold f__law_machine mFunT m__law_machine
  unfold mRow mStep at all
  rw [show entryT 9 [true, true] [.int (size : Int), .int (many : Int)] = [some (.tray 0), some (.bor (.int size)), some (.bor (.int many)), none, none, none, none, none, none] from rfl, all]
end
end TA
end Mi
/-! Runs of machines. -/
namespace Mi
open PySem L2
def bitN (w p : Nat) : Nat := w / 2 ^ p % 2
def letA (p : Nat) : List Nat → Nat → Nat
  | [], _ => 0
  | w :: r, j => bitN w p * 2 ^ j + letA p r (j + 1)
def cell (M : List (List (Nat × Nat))) (s l : Nat) : Nat × Nat := (M.getD s []).getD l (0, 0)
def runS (M : List (List (Nat × Nat))) : Nat → List Nat → Nat
  | s, [] => s
  | s, l :: r => runS M (cell M s l).1 r
def outW (M : List (List (Nat × Nat))) : Nat → List Nat → Nat → Nat
  | _, [], _ => 0
  | s, l :: r, i => (cell M s l).2 * 2 ^ i + outW M (cell M s l).1 r (i + 1)
theorem letA_snoc (p w : Nat) : ∀ (ws : List Nat) (j : Nat), letA p (ws ++ [w]) j = letA p ws j + bitN w p * 2 ^ (j + ws.length)
  | [], j => by show bitN w p * 2 ^ j + 0 = 0 + bitN w p * 2 ^ j; omega
  | v :: r, j => by
    rw [List.cons_append]
    show bitN v p * 2 ^ j + letA p (r ++ [w]) (j + 1) = bitN v p * 2 ^ j + letA p r (j + 1) + _
    rw [letA_snoc p w r, List.length_cons, show j + 1 + r.length = j + (r.length + 1) from by omega]
    omega
theorem bitN_lt (w p : Nat) : bitN w p < 2 := Nat.mod_lt _ (by decide)
theorem runS_snoc (M : List (List (Nat × Nat))) (l : Nat) : ∀ (xs : List Nat) (s : Nat), runS M s (xs ++ [l]) = (cell M (runS M s xs) l).1
  | [], s => rfl
  | x :: r, s => runS_snoc M l r _
theorem outW_snoc (M : List (List (Nat × Nat))) (l : Nat) : ∀ (xs : List Nat) (s i : Nat), outW M s (xs ++ [l]) i = outW M s xs i + (cell M (runS M s xs) l).2 * 2 ^ (i + xs.length)
  | [], s, i => by show (cell M s l).2 * 2 ^ i + 0 = 0 + (cell M s l).2 * 2 ^ i; omega
  | x :: r, s, i => by
    rw [List.cons_append]
    show (cell M s x).2 * 2 ^ i + outW M _ (r ++ [l]) (i + 1) = (cell M s x).2 * 2 ^ i + outW M _ r (i + 1) + _
    rw [outW_snoc M l r, List.length_cons, show i + 1 + r.length = i + (r.length + 1) from by omega]
    show _ = _ + (cell M (runS M (cell M s x).1 r) l).2 * _
    omega
/-- letters that the machine has -/
def OkS (many : Nat) (xs : List Nat) : Prop := ∀ l ∈ xs, l < 2 ^ many
section
variable {many : Nat} {M : List (List (Nat × Nat))}
theorem cell_at (ok : OkM many M) {s l : Nat} (hs : s < M.length) (hl : l < 2 ^ many) : ∃ row, M[s]? = some row ∧ row[l]? = some (cell M s l) ∧ (cell M s l).1 < M.length ∧ (cell M s l).2 < 2 := by
  have h1 : M[s]? = some M[s] := List.getElem?_eq_getElem hs
  have r := ok.row M[s] (List.getElem_mem hs)
  have hl2 : l < M[s].length := by rw [r.len]; exact hl
  have h2 : M[s][l]? = some M[s][l] := List.getElem?_eq_getElem hl2
  have e : cell M s l = M[s][l] := by
    unfold cell
    rw [List.getD_eq_getElem?_getD (l := M), h1, Option.getD_some, List.getD_eq_getElem?_getD, h2, Option.getD_some]
  rw [e]
  exact ⟨_, h1, h2, r.goal _ (List.getElem_mem hl2), r.bit _ (List.getElem_mem hl2)⟩
theorem runS_lt (ok : OkM many M) : ∀ (xs : List Nat) (s : Nat), s < M.length → OkS many xs → runS M s xs < M.length
  | [], s, h, _ => h
  | x :: r, s, h, o => by
    obtain ⟨_, _, _, h2, _⟩ := cell_at ok h (o x (List.mem_cons_self ..))
    exact runS_lt ok r _ h2 fun l m => o l (List.mem_cons_of_mem _ m)
theorem outW_lt (ok : OkM many M) : ∀ (xs : List Nat) (s i : Nat), s < M.length → OkS many xs → outW M s xs i + 2 ^ i ≤ 2 ^ (i + xs.length)
  | [], s, i, _, _ => by show 0 + 2 ^ i ≤ 2 ^ i; omega
  | x :: r, s, i, h, o => by
    obtain ⟨_, _, _, h2, h3⟩ := cell_at ok h (o x (List.mem_cons_self ..))
    have ih := outW_lt ok r _ (i + 1) h2 fun l m => o l (List.mem_cons_of_mem _ m)
    have e : (cell M s x).2 * 2 ^ i ≤ 2 ^ i := by
      have : (cell M s x).2 ≤ 1 := by omega
      calc (cell M s x).2 * 2 ^ i ≤ 1 * 2 ^ i := Nat.mul_le_mul_right _ this
        _ = 2 ^ i := Nat.one_mul _
    rw [List.length_cons, show i + (r.length + 1) = i + 1 + r.length from by omega]
    show (cell M s x).2 * 2 ^ i + outW M _ r (i + 1) + 2 ^ i ≤ _
    have : 2 ^ (i + 1) = 2 ^ i + 2 ^ i := by rw [Nat.pow_succ]; omega
    omega
end
/-! ### the lower bits -/
theorem bitN_low {w p L : Nat} (h : p < L) : bitN (w % 2 ^ L) p = bitN w p := by
  unfold bitN
  rw [← Nat.toNat_testBit, ← Nat.toNat_testBit, Nat.testBit_mod_two_pow, decide_eq_true h, Bool.true_and]
end Mi
/-! Least machines: behaviour, and why two that are least and numbered as they are met are one. -/
namespace Mi.LM
open PySem
open TA
abbrev Mc := List (List (Nat × Nat))
/-- p of M and q of N write alike for k letters -/
def bis (many : Nat) (M N : Mc) : Nat → Nat → Nat → Prop
  | 0, _, _ => True
  | k + 1, p, q => ∀ l, l < 2 ^ many → (cell M p l).2 = (cell N q l).2 ∧ bis many M N k (cell M p l).1 (cell N q l).1
def beh (many : Nat) (M N : Mc) (p q : Nat) : Prop := ∀ k, bis many M N k p q
section
variable {many : Nat} {M N O : Mc}
theorem bis_refl : ∀ k p, bis many M M k p p
  | 0, _ => trivial
  | k + 1, p => fun l _ => ⟨rfl, bis_refl k _⟩
theorem bis_symm : ∀ {k p q}, bis many M N k p q → bis many N M k q p
  | 0, _, _, _ => trivial
  | k + 1, p, q, h => fun l hl => ⟨(h l hl).1.symm, bis_symm (h l hl).2⟩
theorem bis_trans : ∀ {k p q r}, bis many M N k p q → bis many N O k q r → bis many M O k p r
  | 0, _, _, _, _, _ => trivial
  | k + 1, p, q, r, h, g => fun l hl => ⟨(h l hl).1.trans (g l hl).1, bis_trans (h l hl).2 (g l hl).2⟩
theorem bis_down : ∀ {k p q}, bis many M N (k + 1) p q → bis many M N k p q
  | 0, _, _, _ => trivial
  | k + 1, p, q, h => fun l hl => ⟨(h l hl).1, bis_down (h l hl).2⟩
theorem beh_refl (p : Nat) : beh many M M p p := fun k => bis_refl k p
theorem beh.symm {p q : Nat} (h : beh many M N p q) : beh many N M q p := fun k => bis_symm (h k)
theorem beh.trans {p q r : Nat} (h : beh many M N p q) (g : beh many N O q r) : beh many M O p r := fun k => bis_trans (h k) (g k)
theorem beh.step {p q l : Nat} (h : beh many M N p q) (hl : l < 2 ^ many) : (cell M p l).2 = (cell N q l).2 ∧ beh many M N (cell M p l).1 (cell N q l).1 := ⟨(h 1 l hl).1, fun k => (h (k + 1) l hl).2⟩
/-- a relation that goes on -/
theorem beh_of (R : Nat → Nat → Prop) (h : ∀ p q, R p q → ∀ l, l < 2 ^ many → (cell M p l).2 = (cell N q l).2 ∧ R (cell M p l).1 (cell N q l).1) {p q : Nat} (r : R p q) : beh many M N p q := fun k => by
  induction k generalizing p q with
  | zero => trivial
  | succ k ih => exact fun l hl => ⟨(h p q r l hl).1, ih (h p q r l hl).2⟩
theorem beh_out : ∀ {xs : List Nat} {p q i : Nat}, beh many M N p q → OkS many xs → outW M p xs i = outW N q xs i
  | [], _, _, _, _, _ => rfl
  | l :: r, p, q, i, h, o => by
    obtain ⟨h1, h2⟩ := h.step (o l List.mem_cons_self)
    show (cell M p l).2 * 2 ^ i + outW M (cell M p l).1 r (i + 1) = (cell N q l).2 * 2 ^ i + outW N (cell N q l).1 r (i + 1)
    rw [h1, beh_out h2 fun x m => o x (List.mem_cons_of_mem _ m)]
end
/-- no two states write alike -/
def Red (many : Nat) (M : Mc) : Prop := ∀ p q, p < M.length → q < M.length → beh many M M p q → p = q
/-- goals as they are met: each is known, or the next number -/
def scan : Nat → List Nat → Option Nat
  | m, [] => some m
  | m, y :: r => if y < m then scan m r else if y = m then scan (m + 1) r else none
def goals (r : List (Nat × Nat)) : List Nat := r.map (·.1)
/-- the rows from the k-th on, m states met so far -/
def Met : Nat → Nat → Mc → Prop
  | k, m, [] => k = m
  | k, m, r :: rs => k < m ∧ ∃ m', scan m (goals r) = some m' ∧ Met (k + 1) m' rs
section
variable {many : Nat} {D1 D2 : Mc}
def Pair (many : Nat) (D1 D2 : Mc) (m : Nat) : Prop := ∀ v, v < m → v < D1.length ∧ v < D2.length ∧ beh many D1 D2 v v
theorem row_one (r1 : Red many D1) (r2 : Red many D2) : ∀ {a b : List (Nat × Nat)} {m m1 m2 : Nat}, a.length = b.length → (∀ (i : Nat) (p q : Nat × Nat), a[i]? = some p → b[i]? = some q → p.2 = q.2 ∧ p.1 < D1.length ∧ q.1 < D2.length ∧ beh many D1 D2 p.1 q.1) →
    Pair many D1 D2 m → scan m (goals a) = some m1 → scan m (goals b) = some m2 → a = b ∧ m1 = m2 ∧ Pair many D1 D2 m1
  | [], [], m, m1, m2, _, _, hp, h1, h2 => by
    cases h1
    cases h2
    exact ⟨rfl, rfl, hp⟩
  | [], _ :: _, _, _, _, h, _, _, _, _ => by cases h
  | _ :: _, [], _, _, _, h, _, _, _, _ => by cases h
  | p :: a, q :: b, m, m1, m2, hl, hc, hp, h1, h2 => by
    obtain ⟨e, l1, l2, hb⟩ := hc 0 p q rfl rfl
    have hr : ∀ (i : Nat) (p q : Nat × Nat), a[i]? = some p → b[i]? = some q → p.2 = q.2 ∧ p.1 < D1.length ∧ q.1 < D2.length ∧ beh many D1 D2 p.1 q.1 := fun i p q h g => hc (i + 1) p q h g
    have hl' : a.length = b.length := by simpa using hl
    obtain ⟨p1, p2⟩ := p
    obtain ⟨q1, q2⟩ := q
    have e : p2 = q2 := e
    have l1 : p1 < D1.length := l1
    have l2 : q1 < D2.length := l2
    have hb : beh many D1 D2 p1 q1 := hb
    subst e
    have h1 : (if p1 < m then scan m (goals a) else if p1 = m then scan (m + 1) (goals a) else none) = some m1 := h1
    have h2 : (if q1 < m then scan m (goals b) else if q1 = m then scan (m + 1) (goals b) else none) = some m2 := h2
    have same : p1 = q1 := by
      by_cases c1 : p1 < m
      · obtain ⟨_, g2, g3⟩ := hp p1 c1
        exact r2 _ _ g2 l2 (g3.symm.trans hb)
      · by_cases c2 : q1 < m
        · obtain ⟨g1, _, g3⟩ := hp q1 c2
          exact r1 _ _ l1 g1 (hb.trans g3.symm)
        · rw [if_neg c1] at h1
          rw [if_neg c2] at h2
          by_cases d1 : p1 = m
          · by_cases d2 : q1 = m
            · omega
            · rw [if_neg d2] at h2; cases h2
          · rw [if_neg d1] at h1; cases h1
    subst same
    by_cases c1 : p1 < m
    · rw [if_pos c1] at h1 h2
      obtain ⟨e1, e2, e3⟩ := row_one r1 r2 hl' hr hp h1 h2
      exact ⟨by rw [e1], e2, e3⟩
    · rw [if_neg c1] at h1 h2
      by_cases d1 : p1 = m
      · rw [if_pos d1] at h1 h2
        obtain ⟨e1, e2, e3⟩ := row_one r1 r2 hl' hr (fun v hv => by
          by_cases c : v < m
          · exact hp v c
          · have : v = p1 := by omega
            subst this
            exact ⟨l1, l2, hb⟩) h1 h2
        exact ⟨by rw [e1], e2, e3⟩
      · rw [if_neg d1] at h1
        cases h1
theorem rows_one (o1 : OkM many D1) (o2 : OkM many D2) (r1 : Red many D1) (r2 : Red many D2) : ∀ {A B : Mc} {k m : Nat}, (∀ i, A[i]? = D1[k + i]?) → (∀ i, B[i]? = D2[k + i]?) → Pair many D1 D2 m → Met k m A → Met k m B → A = B
  | [], [], _, _, _, _, _, _, _ => rfl
  | [], _ :: _, k, m, _, _, _, h1, h2 => by
    have h1 : k = m := h1
    have := h2.1
    omega
  | _ :: _, [], k, m, _, _, _, h1, h2 => by
    have h2 : k = m := h2
    have := h1.1
    omega
  | a :: A, b :: B, k, m, hA, hB, hp, h1, h2 => by
    obtain ⟨hk, m1, s1, t1⟩ := h1
    obtain ⟨_, m2, s2, t2⟩ := h2
    obtain ⟨g1, g2, g3⟩ := hp k hk
    have ea : D1[k]? = some a := (hA 0).symm
    have eb : D2[k]? = some b := (hB 0).symm
    have ra := o1.row a (List.mem_of_getElem? ea)
    have rb := o2.row b (List.mem_of_getElem? eb)
    obtain ⟨e1, e2, e3⟩ := row_one (a := a) (b := b) r1 r2 (by rw [ra.len, rb.len]) (fun i p q hi hj => by
      have hil : i < 2 ^ many := by rw [← ra.len]; exact (List.getElem?_eq_some_iff.mp hi).1
      have c1 : cell D1 k i = p := by
        unfold cell
        rw [List.getD_eq_getElem?_getD (l := D1), ea, Option.getD_some, List.getD_eq_getElem?_getD, hi, Option.getD_some]
      have c2 : cell D2 k i = q := by
        unfold cell
        rw [List.getD_eq_getElem?_getD (l := D2), eb, Option.getD_some, List.getD_eq_getElem?_getD, hj, Option.getD_some]
      obtain ⟨h3, h4⟩ := g3.step hil
      rw [c1, c2] at h3 h4
      exact ⟨h3, ra.goal p (List.mem_of_getElem? hi), rb.goal q (List.mem_of_getElem? hj), h4⟩) hp s1 s2
    subst e2
    rw [e1, rows_one o1 o2 r1 r2 (A := A) (B := B) (k := k + 1) (m := m1) (fun i => by
      have := hA (i + 1)
      rw [show k + 1 + i = k + (i + 1) by omega]
      exact this) (fun i => by
      have := hB (i + 1)
      rw [show k + 1 + i = k + (i + 1) by omega]
      exact this) e3 t1 t2]
/-- two least machines that write alike and are numbered as they are met -/
theorem one (o1 : OkM many D1) (o2 : OkM many D2) (r1 : Red many D1) (r2 : Red many D2) (m1 : Met 0 1 D1) (m2 : Met 0 1 D2) (h : beh many D1 D2 0 0) : D1 = D2 :=
  rows_one o1 o2 r1 r2 (k := 0) (m := 1) (fun i => by rw [Nat.zero_add]) (fun i => by rw [Nat.zero_add]) (fun v hv => by
    have : v = 0 := by omega
    subst this
    exact ⟨o1.pos, o2.pos, h⟩) m1 m2
end
end Mi.LM
/-! States in the order in which they are met, one for each key. -/
namespace Mi.LM
open PySem
open TA
section
variable {κ : Type} [DecidableEq κ]
def pos : List κ → κ → Nat
  | [], _ => 0
  | x :: r, k => if x = k then 0 else pos r k + 1
theorem pos_lt : ∀ {xs : List κ} {k : κ}, k ∈ xs → pos xs k < xs.length ∧ xs[pos xs k]? = some k
  | x :: r, k, h => by
    unfold pos
    by_cases e : x = k
    · rw [if_pos e]
      exact ⟨by simp, by rw [← e]; rfl⟩
    · rw [if_neg e]
      obtain ⟨h1, h2⟩ := pos_lt (xs := r) (k := k) (by
        rcases List.mem_cons.mp h with q | q
        · exact absurd q.symm e
        · exact q)
      exact ⟨by rw [List.length_cons]; omega, h2⟩
theorem pos_app {xs ys : List κ} {k : κ} : pos (xs ++ ys) k = if k ∈ xs then pos xs k else xs.length + pos ys k := by
  induction xs with
  | nil => simp
  | cons x r ih =>
    show (if x = k then 0 else pos (r ++ ys) k + 1) = _
    by_cases e : x = k
    · rw [if_pos e, if_pos (by rw [e]; exact List.mem_cons_self)]
      unfold pos
      rw [if_pos e]
    · rw [if_neg e, ih]
      by_cases m : k ∈ r
      · rw [if_pos m, if_pos (List.mem_cons_of_mem _ m)]
        show _ = if x = k then 0 else pos r k + 1
        rw [if_neg e]
      · rw [if_neg m, if_neg (by
          intro h
          rcases List.mem_cons.mp h with q | q
          · exact e q.symm
          · exact m q), List.length_cons]
        omega
theorem nodup_inj {α : Type} {l : List α} (h : l.Nodup) {i j : Nat} (hi : i < l.length) (hj : j < l.length) (e : l[i] = l[j]) : i = j := by
  rcases Nat.lt_trichotomy i j with q | q | q
  · exact absurd e (List.pairwise_iff_getElem.mp h i j hi hj q)
  · exact q
  · exact absurd e.symm (List.pairwise_iff_getElem.mp h j i hj hi q)
theorem pos_at {xs : List κ} (hn : xs.Nodup) {i : Nat} {k : κ} (h : xs[i]? = some k) : pos xs k = i := by
  obtain ⟨h1, h2⟩ := pos_lt (List.mem_of_getElem? h)
  have hi := (List.getElem?_eq_some_iff.mp h).1
  have e : xs[pos xs k] = xs[i] := by
    rw [List.getElem?_eq_getElem h1] at h2
    rw [List.getElem?_eq_getElem hi] at h
    rw [Option.some.inj h2, Option.some.inj h]
  exact nodup_inj hn h1 hi e
def meet (c : Nat → κ) (o : List Nat) (g : Nat) : List Nat := if c g ∈ o.map c then o else o ++ [g]
def ordS (c : Nat → κ) (o : List Nat) (gs : List Nat) : List Nat := gs.foldl (meet c) o
def ordN (c : Nat → κ) (X : Mc) : Nat → List Nat
  | 0 => [0]
  | k + 1 => match (ordN c X k)[k]? with
    | some s => ordS c (ordN c X k) (goals (X.getD s []))
    | none => ordN c X k
def ordF (c : Nat → κ) (X : Mc) : List Nat := ordN c X X.length
/-- the machine of keys -/
def quo (c : Nat → κ) (X : Mc) : Mc := (ordF c X).map fun s => (X.getD s []).map fun p => (pos ((ordF c X).map c) (c p.1), p.2)
variable {c : Nat → κ} {X : Mc} {many : Nat}
theorem meet_pre (o : List Nat) (g : Nat) : ∃ l, meet c o g = o ++ l := by
  unfold meet
  split
  · exact ⟨[], (List.append_nil o).symm⟩
  · exact ⟨[g], rfl⟩
theorem ordS_pre : ∀ (gs o : List Nat), ∃ l, ordS c o gs = o ++ l
  | [], o => ⟨[], (List.append_nil o).symm⟩
  | g :: r, o => by
    obtain ⟨l, e⟩ := meet_pre (c := c) o g
    obtain ⟨l2, e2⟩ := ordS_pre r (meet c o g)
    exact ⟨l ++ l2, by show ordS c (meet c o g) r = _; rw [e2, e, List.append_assoc]⟩
theorem ordN_some {k s : Nat} (h : (ordN c X k)[k]? = some s) : ordN c X (k + 1) = ordS c (ordN c X k) (goals (X.getD s [])) := by
  conv => lhs; unfold ordN
  rw [h]
theorem ordN_none {k : Nat} (h : (ordN c X k)[k]? = none) : ordN c X (k + 1) = ordN c X k := by
  conv => lhs; unfold ordN
  rw [h]
theorem ordN_pre (k : Nat) : ∃ l, ordN c X (k + 1) = ordN c X k ++ l := by
  cases h : (ordN c X k)[k]? with
  | none => exact ⟨[], by rw [ordN_none h, List.append_nil]⟩
  | some s => rw [ordN_some h]; exact ordS_pre _ _
theorem ordN_le {j k : Nat} (h : j ≤ k) : ∃ l, ordN c X k = ordN c X j ++ l := by
  induction k with
  | zero =>
    have : j = 0 := by omega
    subst this
    exact ⟨[], (List.append_nil _).symm⟩
  | succ k ih =>
    by_cases e : j = k + 1
    · subst e
      exact ⟨[], (List.append_nil _).symm⟩
    · obtain ⟨l, e1⟩ := ih (by omega)
      obtain ⟨l2, e2⟩ := ordN_pre (c := c) (X := X) k
      exact ⟨l ++ l2, by rw [e2, e1, List.append_assoc]⟩
/-- what holds of the states met -/
structure Ord (c : Nat → κ) (n : Nat) (o : List Nat) : Prop where
  nd : (o.map c).Nodup
  lt : ∀ s ∈ o, s < n
  zero : o[0]? = some 0
theorem Ord.meet {n : Nat} {o : List Nat} {g : Nat} (h : Ord c n o) (hg : g < n) : Ord c n (meet c o g) ∧ c g ∈ (LM.meet c o g).map c := by
  unfold LM.meet
  split
  · rename_i m
    exact ⟨h, m⟩
  · rename_i m
    refine ⟨⟨?_, fun s ms => ?_, ?_⟩, by rw [List.map_append]; exact List.mem_append_right _ List.mem_cons_self⟩
    · rw [List.map_append]
      refine List.nodup_append.mpr ⟨h.nd, by simp, fun a ma b mb e => ?_⟩
      have mb : b = c g := by simpa using mb
      rw [e, mb] at ma
      exact m ma
    · rcases List.mem_append.mp ms with ms | ms
      · exact h.lt s ms
      · cases List.mem_singleton.mp ms
        exact hg
    · rw [List.getElem?_append_left (by
        have := (List.getElem?_eq_some_iff.mp h.zero).1
        exact this)]
      exact h.zero
theorem Ord.all {n : Nat} : ∀ {gs : List Nat} {o : List Nat}, Ord c n o → (∀ g ∈ gs, g < n) → Ord c n (ordS c o gs) ∧ ∀ g ∈ gs, c g ∈ (ordS c o gs).map c
  | [], o, h, _ => ⟨h, fun g m => nomatch m⟩
  | g :: r, o, h, hg => by
    obtain ⟨h1, h2⟩ := h.meet (hg g List.mem_cons_self)
    obtain ⟨h3, h4⟩ := Ord.all (gs := r) h1 fun x m => hg x (List.mem_cons_of_mem _ m)
    refine ⟨h3, fun x m => ?_⟩
    rcases List.mem_cons.mp m with rfl | m
    · obtain ⟨l, e⟩ := ordS_pre (c := c) r (LM.meet c o x)
      show c x ∈ (ordS c (LM.meet c o x) r).map c
      rw [e, List.map_append]
      exact List.mem_append_left _ h2
    · exact h4 x m
theorem goals_lt (ok : OkM many X) {s : Nat} : ∀ g ∈ goals (X.getD s []), g < X.length := fun g m => by
  obtain ⟨p, mp, rfl⟩ := List.mem_map.mp m
  by_cases h : s < X.length
  · rw [List.getD_eq_getElem?_getD, List.getElem?_eq_getElem h] at mp
    exact (ok.row _ (List.getElem_mem h)).goal p mp
  · rw [List.getD_eq_getElem?_getD, List.getElem?_eq_none (by omega)] at mp
    cases mp
theorem ord_ok (ok : OkM many X) : ∀ k, Ord c X.length (ordN c X k)
  | 0 => ⟨by simp [ordN], fun s m => by
      have : s = 0 := by simpa [ordN] using m
      subst this
      exact ok.pos, rfl⟩
  | k + 1 => by
    cases h : (ordN c X k)[k]? with
    | none => rw [ordN_none h]; exact ord_ok ok k
    | some s => rw [ordN_some h]; exact ((ord_ok ok k).all (goals_lt ok)).1
theorem nodup_of_map {α β : Type} {f : α → β} : ∀ {l : List α}, (l.map f).Nodup → l.Nodup
  | [], _ => List.nodup_nil
  | a :: r, h => by
    have h := List.nodup_cons.mp h
    exact List.nodup_cons.mpr ⟨fun m => h.1 (List.mem_map.mpr ⟨a, m, rfl⟩), nodup_of_map h.2⟩
theorem ord_len (ok : OkM many X) (k : Nat) : (ordN c X k).length ≤ X.length := by
  have h := ord_ok (c := c) ok k
  have := L2.nat_nodup_len (ordN c X k) (List.range X.length) (nodup_of_map h.nd) fun x m => List.mem_range.mpr (h.lt x m)
  rw [List.length_range] at this
  exact this
theorem ord_stop {k : Nat} (h : (ordN c X k).length ≤ k) : ∀ j, k ≤ j → ordN c X j = ordN c X k := fun j hj => by
  induction j with
  | zero =>
    have : k = 0 := by omega
    rw [this]
  | succ j ih =>
    by_cases e : k = j + 1
    · rw [e]
    · have e1 := ih (by omega)
      rw [ordN_none (List.getElem?_eq_none (by rw [e1]; omega))]
      exact e1
theorem ord_more (ok : OkM many X) {k : Nat} (h : k < (ordF c X).length) : k < (ordN c X k).length := by
  rcases Nat.lt_or_ge k (ordN c X k).length with q | q
  · exact q
  · have hk : k ≤ X.length := by
      have := ord_len (c := c) ok X.length
      have h : k < (ordN c X X.length).length := h
      omega
    have e := ord_stop q X.length hk
    have h : k < (ordN c X X.length).length := h
    rw [e] at h
    omega
theorem ord_end (ok : OkM many X) : ordN c X (ordF c X).length = ordF c X := by
  have hl : (ordF c X).length ≤ X.length := ord_len ok _
  obtain ⟨l, e⟩ := ordN_le (c := c) (X := X) hl
  have e : ordF c X = ordN c X (ordF c X).length ++ l := e
  have : (ordN c X (ordF c X).length).length ≤ (ordF c X).length := by
    have := congrArg List.length e
    rw [List.length_append] at this
    omega
  exact (ord_stop this X.length hl).symm
theorem ordF_pre {k : Nat} (hk : k ≤ X.length) : ∃ l, ordF c X = ordN c X k ++ l := ordN_le hk
/-- what the states met lead to has been met -/
theorem closed (ok : OkM many X) {i s : Nat} (h : (ordF c X)[i]? = some s) : ∀ g ∈ goals (X.getD s []), c g ∈ (ordF c X).map c := fun g m => by
  have hi : i < (ordF c X).length := (List.getElem?_eq_some_iff.mp h).1
  have hl : (ordF c X).length ≤ X.length := ord_len ok _
  have hm := ord_more ok hi
  obtain ⟨l, e⟩ := ordF_pre (c := c) (X := X) (k := i) (by omega)
  have hs : (ordN c X i)[i]? = some s := by
    rw [e, List.getElem?_append_left hm] at h
    exact h
  have e2 : ordN c X (i + 1) = ordS c (ordN c X i) (goals (X.getD s [])) := ordN_some hs
  obtain ⟨l2, e3⟩ := ordF_pre (c := c) (X := X) (k := i + 1) (by omega)
  rw [e3, List.map_append]
  refine List.mem_append_left _ ?_
  rw [e2]
  exact ((ord_ok ok i).all (goals_lt ok)).2 g m
theorem scan_ord {F : List Nat} (hn : (F.map c).Nodup) : ∀ {gs o : List Nat}, (∃ l, F = ordS c o gs ++ l) → scan o.length (gs.map fun g => pos (F.map c) (c g)) = some (ordS c o gs).length
  | [], o, _ => rfl
  | g :: r, o, h => by
    have h' : ∃ l, F = ordS c (meet c o g) r ++ l := h
    have ih := scan_ord hn (gs := r) (o := meet c o g) h'
    obtain ⟨l, e⟩ := h'
    obtain ⟨l1, e1⟩ := ordS_pre (c := c) r (meet c o g)
    rw [e1, List.append_assoc] at e
    show (if pos (F.map c) (c g) < o.length then scan o.length (r.map fun g => pos (F.map c) (c g)) else if pos (F.map c) (c g) = o.length then scan (o.length + 1) (r.map fun g => pos (F.map c) (c g)) else none) = some (ordS c (meet c o g) r).length
    by_cases m : c g ∈ o.map c
    · have em : meet c o g = o := by unfold meet; rw [if_pos m]
      rw [em] at ih e ⊢
      have hp : pos (F.map c) (c g) < o.length := by
        rw [e, List.map_append, pos_app, if_pos m]
        have := (pos_lt m).1
        rw [List.length_map] at this
        exact this
      rw [if_pos hp]
      exact ih
    · have em : meet c o g = o ++ [g] := by unfold meet; rw [if_neg m]
      rw [em] at ih e ⊢
      have hp : pos (F.map c) (c g) = o.length := by
        rw [e, List.append_assoc, List.map_append, pos_app, if_neg m, List.length_map, List.map_append]
        show o.length + (if c g = c g then 0 else _) = _
        rw [if_pos rfl]
        rfl
      rw [if_neg (by omega), if_pos hp]
      rw [List.length_append, List.length_singleton] at ih
      exact ih
theorem quo_len : (quo c X).length = (ordF c X).length := List.length_map _
theorem quo_row {k s : Nat} (h : (ordF c X)[k]? = some s) : (quo c X)[k]? = some ((X.getD s []).map fun p => (pos ((ordF c X).map c) (c p.1), p.2)) := by
  unfold quo
  rw [List.getElem?_map, h]
  rfl
theorem quo_met (ok : OkM many X) : ∀ d k, k + d = (ordF c X).length → Met k (ordN c X k).length ((quo c X).drop k)
  | 0, k, h => by
    rw [List.drop_eq_nil_of_le (by rw [quo_len]; omega)]
    show k = _
    have : k = (ordF c X).length := by omega
    rw [this, ord_end ok]
  | d + 1, k, h => by
    have hk : k < (ordF c X).length := by omega
    have hl : (ordF c X).length ≤ X.length := ord_len ok _
    have hm := ord_more ok hk
    obtain ⟨s, hs⟩ : ∃ s, (ordF c X)[k]? = some s := ⟨_, List.getElem?_eq_getElem hk⟩
    obtain ⟨l, e⟩ := ordF_pre (c := c) (X := X) (k := k) (by omega)
    have hs2 : (ordN c X k)[k]? = some s := by
      rw [e, List.getElem?_append_left hm] at hs
      exact hs
    have e2 : ordN c X (k + 1) = ordS c (ordN c X k) (goals (X.getD s [])) := ordN_some hs2
    have hr := quo_row hs
    have hd : (quo c X).drop k = ((X.getD s []).map fun p => (pos ((ordF c X).map c) (c p.1), p.2)) :: (quo c X).drop (k + 1) := by
      have hlt : k < (quo c X).length := by rw [quo_len]; exact hk
      rw [List.drop_eq_getElem_cons hlt]
      rw [List.getElem?_eq_getElem hlt] at hr
      rw [Option.some.inj hr]
    rw [hd]
    refine ⟨hm, (ordN c X (k + 1)).length, ?_, quo_met ok d (k + 1) (by omega)⟩
    rw [e2]
    have := scan_ord (c := c) (F := ordF c X) (ord_ok ok _).nd (gs := goals (X.getD s [])) (o := ordN c X k) (by
      rw [← e2]
      exact ordF_pre (by omega))
    rw [← this]
    congr 1
    unfold goals
    rw [List.map_map, List.map_map]
    rfl
theorem quo_ok (ok : OkM many X) : OkM many (quo c X) := by
  have hz := (ord_ok (c := c) ok X.length).zero
  have h0 : 0 < (ordF c X).length := (List.getElem?_eq_some_iff.mp hz).1
  refine ⟨by rw [quo_len]; exact h0, fun r mr => ?_⟩
  obtain ⟨s, ms, rfl⟩ := List.mem_map.mp mr
  obtain ⟨i, hi⟩ := List.getElem?_of_mem ms
  have hs : s < X.length := (ord_ok ok _).lt s ms
  have ex : X.getD s [] = X[s] := by rw [List.getD_eq_getElem?_getD, List.getElem?_eq_getElem hs]; rfl
  have rw0 := ok.row _ (List.getElem_mem hs)
  refine ⟨by rw [List.length_map, ex]; exact rw0.len, fun p mp => ?_, fun p mp => ?_⟩
  · obtain ⟨q, mq, rfl⟩ := List.mem_map.mp mp
    have := (pos_lt (closed ok hi q.1 (List.mem_map.mpr ⟨q, mq, rfl⟩))).1
    rw [List.length_map] at this
    rw [quo_len]
    exact this
  · obtain ⟨q, mq, rfl⟩ := List.mem_map.mp mp
    rw [ex] at mq
    exact rw0.bit q mq
theorem quo_cell (ok : OkM many X) {k s l : Nat} (h : (ordF c X)[k]? = some s) (hl : l < 2 ^ many) : cell (quo c X) k l = (pos ((ordF c X).map c) (c (cell X s l).1), (cell X s l).2) := by
  have hs : s < X.length := (ord_ok ok _).lt s (List.mem_of_getElem? h)
  obtain ⟨row, h1, h2, _, _⟩ := cell_at ok hs hl
  unfold cell at h2 ⊢
  rw [List.getD_eq_getElem?_getD (l := quo c X), quo_row h, Option.getD_some, List.getD_eq_getElem?_getD, List.getElem?_map]
  rw [List.getD_eq_getElem?_getD (l := X), h1, Option.getD_some] at h2 ⊢
  rw [h2]
  rfl
/-- keys that go on -/
def Cong (many : Nat) (X : Mc) (c : Nat → κ) : Prop := ∀ s t, s < X.length → t < X.length → c s = c t → ∀ l, l < 2 ^ many → (cell X s l).2 = (cell X t l).2 ∧ c (cell X s l).1 = c (cell X t l).1
theorem quo_beh (ok : OkM many X) (hc : Cong many X c) {k s : Nat} (h : (ordF c X)[k]? = some s) : beh many (quo c X) X k s := by
  refine beh_of (fun k s => s < X.length ∧ ∃ t, (ordF c X)[k]? = some t ∧ c t = c s) (fun p q ⟨hq, t, ht, e⟩ l hl => ?_) ⟨(ord_ok ok _).lt s (List.mem_of_getElem? h), s, h, rfl⟩
  have htl : t < X.length := (ord_ok ok _).lt t (List.mem_of_getElem? ht)
  obtain ⟨g1, g2⟩ := hc t q htl hq e l hl
  have ec := quo_cell ok ht hl
  obtain ⟨row, h1, h2, h3, _⟩ := cell_at ok htl hl
  have mem : c (cell X t l).1 ∈ (ordF c X).map c := closed ok ht _ (by
    rw [List.getD_eq_getElem?_getD, h1]
    exact List.mem_map.mpr ⟨_, List.mem_of_getElem? h2, rfl⟩)
  obtain ⟨p1, p2⟩ := pos_lt mem
  rw [ec]
  refine ⟨g1, (cell_at ok hq hl).choose_spec.2.2.1, ?_⟩
  rw [List.getElem?_map] at p2
  cases hx : (ordF c X)[pos ((ordF c X).map c) (c (cell X t l).1)]? with
  | none => rw [hx] at p2; cases p2
  | some u =>
    rw [hx] at p2
    exact ⟨u, rfl, (Option.some.inj p2).trans g2⟩
theorem quo_red (ok : OkM many X) (hc : Cong many X c) (hs : ∀ s t, s < X.length → t < X.length → beh many X X s t → c s = c t) : Red many (quo c X) := fun p q hp hq h => by
  rw [quo_len] at hp hq
  have e1 : (ordF c X)[p]? = some (ordF c X)[p] := List.getElem?_eq_getElem hp
  have e2 : (ordF c X)[q]? = some (ordF c X)[q] := List.getElem?_eq_getElem hq
  have b := ((quo_beh ok hc e1).symm.trans h).trans (quo_beh ok hc e2)
  have e := hs _ _ ((ord_ok ok _).lt _ (List.getElem_mem hp)) ((ord_ok ok _).lt _ (List.getElem_mem hq)) b
  have nd := (ord_ok (c := c) ok X.length).nd
  have g1 : ((ordF c X).map c)[p]'(by rw [List.length_map]; exact hp) = ((ordF c X).map c)[q]'(by rw [List.length_map]; exact hq) := by
    rw [List.getElem_map, List.getElem_map]
    exact e
  exact nodup_inj nd _ _ g1
theorem quo_met0 (ok : OkM many X) : Met 0 1 (quo c X) := by
  have := quo_met (c := c) ok (ordF c X).length 0 (by omega)
  exact this
theorem quo_zero (ok : OkM many X) (hc : Cong many X c) : beh many (quo c X) X 0 0 := quo_beh ok hc (ord_ok ok _).zero
end
end Mi.LM
/-! Classes by what rows say of classes, until nothing changes. -/
namespace Mi.LM
open PySem
open TA
section
variable {κ κ' : Type} [DecidableEq κ] [DecidableEq κ']
def addK (o : List κ) (k : κ) : List κ := if k ∈ o then o else o ++ [k]
def first (ks : List κ) : List κ := ks.foldl addK []
def numb (ks : List κ) : List Nat := ks.map (pos (first ks))
theorem first_snoc (ks : List κ) (k : κ) : first (ks ++ [k]) = addK (first ks) k := by
  unfold first
  rw [List.foldl_append]
  rfl
theorem addK_mem {o : List κ} {k x : κ} : x ∈ addK o k ↔ x ∈ o ∨ x = k := by
  unfold addK
  split
  · rename_i h
    constructor
    · exact .inl
    · rintro (m | rfl)
      · exact m
      · exact h
  · rw [List.mem_append, List.mem_singleton]
theorem foldl_add : ∀ (ks o : List κ), o.Nodup → (ks.foldl addK o).Nodup ∧ (∀ x, x ∈ ks.foldl addK o ↔ x ∈ o ∨ x ∈ ks) ∧ (∃ l, ks.foldl addK o = o ++ l) ∧ (ks.foldl addK o).length ≤ o.length + ks.length
  | [], o, h => ⟨h, fun x => by simp, ⟨[], (List.append_nil o).symm⟩, by simp⟩
  | k :: r, o, h => by
    have h1 : (addK o k).Nodup := by
      unfold addK
      split
      · exact h
      · rename_i m
        refine List.nodup_append.mpr ⟨h, by simp, fun a ma b mb e => ?_⟩
        have mb : b = k := by simpa using mb
        rw [e, mb] at ma
        exact m ma
    have h2 : ∃ l, addK o k = o ++ l := by
      unfold addK
      split
      · exact ⟨[], (List.append_nil o).symm⟩
      · exact ⟨[k], rfl⟩
    have h3 : (addK o k).length ≤ o.length + 1 := by
      unfold addK
      split
      · omega
      · rw [List.length_append, List.length_singleton]
        exact Nat.le_refl _
    obtain ⟨g1, g2, ⟨l, g3⟩, g4⟩ := foldl_add r (addK o k) h1
    obtain ⟨l2, e2⟩ := h2
    refine ⟨g1, fun x => ?_, ⟨l2 ++ l, ?_⟩, ?_⟩
    · show x ∈ r.foldl addK (addK o k) ↔ _
      rw [g2 x, addK_mem, List.mem_cons]
      constructor
      · rintro ((m | m) | m)
        · exact .inl m
        · exact .inr (.inl m)
        · exact .inr (.inr m)
      · rintro (m | m | m)
        · exact .inl (.inl m)
        · exact .inl (.inr m)
        · exact .inr m
    · show r.foldl addK (addK o k) = _
      rw [g3, e2, List.append_assoc]
    · show (r.foldl addK (addK o k)).length ≤ _
      rw [List.length_cons]
      omega
theorem first_nodup (ks : List κ) : (first ks).Nodup := (foldl_add ks [] List.nodup_nil).1
theorem first_mem {ks : List κ} {x : κ} : x ∈ first ks ↔ x ∈ ks := by
  have := (foldl_add ks [] List.nodup_nil).2.1 x
  unfold first
  rw [this]
  simp
theorem first_len (ks : List κ) : (first ks).length ≤ ks.length := by
  have := (foldl_add ks [] List.nodup_nil).2.2.2
  unfold first
  simpa using this
theorem first_app (as bs : List κ) : ∃ l, first (as ++ bs) = first as ++ l := by
  unfold first
  rw [List.foldl_append]
  exact (foldl_add bs _ (first_nodup as)).2.2.1
theorem first_take (ks : List κ) (j : Nat) : ∃ l, first ks = first (ks.take j) ++ l := by
  have := first_app (ks.take j) (ks.drop j)
  rwa [List.take_append_drop] at this
theorem pos_inj {xs : List κ} {a b : κ} (ha : a ∈ xs) (hb : b ∈ xs) (h : pos xs a = pos xs b) : a = b := by
  have h1 := (pos_lt ha).2
  have h2 := (pos_lt hb).2
  rw [h, h2] at h1
  exact (Option.some.inj h1).symm
theorem numb_len (ks : List κ) : (numb ks).length = ks.length := List.length_map _
theorem numb_at {ks : List κ} {i : Nat} {k : κ} (h : ks[i]? = some k) : (numb ks)[i]? = some (pos (first ks) k) := by
  unfold numb
  rw [List.getElem?_map, h]
  rfl
theorem numb_inj {ks : List κ} {i j : Nat} {a b : κ} (ha : ks[i]? = some a) (hb : ks[j]? = some b) : (numb ks)[i]? = (numb ks)[j]? ↔ a = b := by
  rw [numb_at ha, numb_at hb]
  constructor
  · intro h
    exact pos_inj (first_mem.mpr (List.mem_of_getElem? ha)) (first_mem.mpr (List.mem_of_getElem? hb)) (Option.some.inj h)
  · intro h
    rw [h]
/-- the same items alike: the same numbers -/
theorem numb_pat {as : List κ} {bs : List κ'} (hl : as.length = bs.length) (h : ∀ i j : Nat, i < as.length → j < as.length → (as[i]? = as[j]? ↔ bs[i]? = bs[j]?)) : numb as = numb bs := by
  have key : ∀ j, j ≤ as.length → (first (as.take j)).length = (first (bs.take j)).length ∧ ∀ (i : Nat) (a : κ) (b : κ'), i < j → as[i]? = some a → bs[i]? = some b → pos (first (as.take j)) a = pos (first (bs.take j)) b := by
    intro j
    induction j with
    | zero => exact fun _ => ⟨rfl, fun i a b hi => by omega⟩
    | succ j ih =>
      intro hj
      obtain ⟨ih1, ih2⟩ := ih (by omega)
      have ha : as[j]? = some as[j] := List.getElem?_eq_getElem (by omega)
      have hb : bs[j]? = some (bs[j]'(by omega)) := List.getElem?_eq_getElem (by omega)
      generalize as[j] = x at ha
      generalize bs[j]'(by omega) = y at hb
      have ta : as.take (j + 1) = as.take j ++ [x] := by rw [List.take_add_one, ha]; rfl
      have tb : bs.take (j + 1) = bs.take j ++ [y] := by rw [List.take_add_one, hb]; rfl
      have mem : x ∈ first (as.take j) ↔ y ∈ first (bs.take j) := by
        rw [first_mem, first_mem]
        constructor
        · intro m
          obtain ⟨i, hi⟩ := List.getElem?_of_mem m
          have hij : i < j := by
            have := (List.getElem?_eq_some_iff.mp hi).1
            rw [List.length_take] at this
            omega
          rw [List.getElem?_take_of_lt hij] at hi
          have e := (h i j (by omega) (by omega)).mp (by rw [hi, ha])
          rw [hb] at e
          exact List.mem_of_getElem? (i := i) (by rw [List.getElem?_take_of_lt hij]; exact e)
        · intro m
          obtain ⟨i, hi⟩ := List.getElem?_of_mem m
          have hij : i < j := by
            have := (List.getElem?_eq_some_iff.mp hi).1
            rw [List.length_take] at this
            omega
          rw [List.getElem?_take_of_lt hij] at hi
          have e := (h i j (by omega) (by omega)).mpr (by rw [hi, hb])
          rw [ha] at e
          exact List.mem_of_getElem? (i := i) (by rw [List.getElem?_take_of_lt hij]; exact e)
      have old : ∀ (i : Nat) (a : κ) (b : κ'), i < j → as[i]? = some a → bs[i]? = some b → a ∈ first (as.take j) ∧ b ∈ first (bs.take j) := fun i a b hi h1 h2 => by
        rw [first_mem, first_mem]
        exact ⟨List.mem_of_getElem? (i := i) (by rw [List.getElem?_take_of_lt hi]; exact h1), List.mem_of_getElem? (i := i) (by rw [List.getElem?_take_of_lt hi]; exact h2)⟩
      rw [ta, tb, first_snoc, first_snoc]
      unfold addK
      by_cases m : x ∈ first (as.take j)
      · have m2 := mem.mp m
        rw [if_pos m, if_pos m2]
        refine ⟨ih1, fun i a b hi h1 h2 => ?_⟩
        by_cases e : i = j
        · subst e
          rw [ha] at h1
          rw [hb] at h2
          cases h1
          cases h2
          rw [first_mem] at m
          obtain ⟨i', hi'⟩ := List.getElem?_of_mem m
          have hij : i' < i := by
            have := (List.getElem?_eq_some_iff.mp hi').1
            rw [List.length_take] at this
            omega
          rw [List.getElem?_take_of_lt hij] at hi'
          have e := (h i' i (by omega) (by omega)).mp (by rw [hi', ha])
          rw [hb] at e
          exact ih2 i' _ _ hij hi' e
        · exact ih2 i a b (by omega) h1 h2
      · have m2 : y ∉ first (bs.take j) := fun z => m (mem.mpr z)
        rw [if_neg m, if_neg m2]
        refine ⟨by rw [List.length_append, List.length_append, ih1]; rfl, fun i a b hi h1 h2 => ?_⟩
        by_cases e : i = j
        · subst e
          rw [ha] at h1
          rw [hb] at h2
          cases h1
          cases h2
          rw [pos_app, if_neg m, pos_app, if_neg m2, ih1]
          unfold pos
          rw [if_pos rfl, if_pos rfl]
        · obtain ⟨o1, o2⟩ := old i a b (by omega) h1 h2
          rw [pos_app, if_pos o1, pos_app, if_pos o2]
          exact ih2 i a b (by omega) h1 h2
  obtain ⟨_, k2⟩ := key as.length (Nat.le_refl _)
  rw [List.take_length, List.take_of_length_le (by omega)] at k2
  apply List.ext_getElem?
  intro i
  by_cases hi : i < as.length
  · have ha : as[i]? = some as[i] := List.getElem?_eq_getElem hi
    have hb : bs[i]? = some (bs[i]'(by omega)) := List.getElem?_eq_getElem (by omega)
    rw [numb_at ha, numb_at hb, k2 i _ _ hi ha hb]
  · rw [List.getElem?_eq_none (by rw [numb_len]; omega), List.getElem?_eq_none (by rw [numb_len]; omega)]
end
/-- a row, its goals' classes in their place -/
def sig (c : List Nat) (r : List (Nat × Nat)) : List (Nat × Nat) := r.map fun p => (c.getD p.1 0, p.2)
def cl (X : Mc) : Nat → List Nat
  | 0 => List.replicate X.length 0
  | r + 1 => numb (X.map (sig (cl X r)))
theorem cl_len (X : Mc) : ∀ r, (cl X r).length = X.length
  | 0 => List.length_replicate
  | r + 1 => by
    show (numb _).length = _
    rw [numb_len, List.length_map]
section
variable {many : Nat} {X : Mc}
theorem sig_eq (ok : OkM many X) (c : List Nat) {s t : Nat} (hs : s < X.length) (ht : t < X.length) : sig c X[s] = sig c X[t] ↔ ∀ l, l < 2 ^ many → (cell X s l).2 = (cell X t l).2 ∧ c.getD (cell X s l).1 0 = c.getD (cell X t l).1 0 := by
  have r1 := ok.row _ (List.getElem_mem hs)
  have r2 := ok.row _ (List.getElem_mem ht)
  have at1 : ∀ l, l < 2 ^ many → (sig c X[s])[l]? = some (c.getD (cell X s l).1 0, (cell X s l).2) := fun l hl => by
    obtain ⟨row, h1, h2, _, _⟩ := cell_at ok hs hl
    rw [List.getElem?_eq_getElem hs] at h1
    cases h1
    unfold sig
    rw [List.getElem?_map, h2]
    rfl
  have at2 : ∀ l, l < 2 ^ many → (sig c X[t])[l]? = some (c.getD (cell X t l).1 0, (cell X t l).2) := fun l hl => by
    obtain ⟨row, h1, h2, _, _⟩ := cell_at ok ht hl
    rw [List.getElem?_eq_getElem ht] at h1
    cases h1
    unfold sig
    rw [List.getElem?_map, h2]
    rfl
  constructor
  · intro e l hl
    have a1 := at1 l hl
    have a2 := at2 l hl
    rw [e, a2] at a1
    have := Option.some.inj a1
    exact ⟨(congrArg Prod.snd this).symm, (congrArg Prod.fst this).symm⟩
  · intro h
    apply List.ext_getElem?
    intro l
    by_cases hl : l < 2 ^ many
    · obtain ⟨g1, g2⟩ := h l hl
      rw [at1 l hl, at2 l hl, g1, g2]
    · rw [List.getElem?_eq_none (by unfold sig; rw [List.length_map, r1.len]; omega), List.getElem?_eq_none (by unfold sig; rw [List.length_map, r2.len]; omega)]
theorem getD_opt {c : List Nat} {i j : Nat} (hi : i < c.length) (hj : j < c.length) : c.getD i 0 = c.getD j 0 ↔ c[i]? = c[j]? := by
  rw [List.getD_eq_getElem?_getD, List.getD_eq_getElem?_getD, List.getElem?_eq_getElem hi, List.getElem?_eq_getElem hj]
  constructor
  · intro h; exact congrArg some h
  · intro h; exact Option.some.inj h
theorem cl_bis (ok : OkM many X) : ∀ (r s t : Nat), s < X.length → t < X.length → ((cl X r).getD s 0 = (cl X r).getD t 0 ↔ bis many X X r s t)
  | 0, s, t, hs, ht => by
    constructor
    · intro _; trivial
    · intro _
      show (List.replicate X.length 0).getD s 0 = (List.replicate X.length 0).getD t 0
      rw [List.getD_eq_getElem?_getD, List.getD_eq_getElem?_getD, List.getElem?_replicate, List.getElem?_replicate, if_pos hs, if_pos ht]
  | r + 1, s, t, hs, ht => by
    have ea : (X.map (sig (cl X r)))[s]? = some (sig (cl X r) X[s]) := by rw [List.getElem?_map, List.getElem?_eq_getElem hs]; rfl
    have eb : (X.map (sig (cl X r)))[t]? = some (sig (cl X r) X[t]) := by rw [List.getElem?_map, List.getElem?_eq_getElem ht]; rfl
    rw [getD_opt (by rw [cl_len]; exact hs) (by rw [cl_len]; exact ht)]
    show (numb _)[s]? = (numb _)[t]? ↔ _
    rw [numb_inj ea eb, sig_eq ok _ hs ht]
    constructor
    · intro h l hl
      obtain ⟨g1, g2⟩ := h l hl
      exact ⟨g1, (cl_bis ok r _ _ (cell_at ok hs hl).choose_spec.2.2.1 (cell_at ok ht hl).choose_spec.2.2.1).mp g2⟩
    · intro h l hl
      obtain ⟨g1, g2⟩ := h l hl
      exact ⟨g1, (cl_bis ok r _ _ (cell_at ok hs hl).choose_spec.2.2.1 (cell_at ok ht hl).choose_spec.2.2.1).mpr g2⟩
/-- where no class parts, the numbers stay -/
theorem cl_same (ok : OkM many X) (r : Nat) (h : ∀ s t, s < X.length → t < X.length → (cl X r).getD s 0 = (cl X r).getD t 0 → (cl X (r + 1)).getD s 0 = (cl X (r + 1)).getD t 0) : cl X (r + 1) = cl X r := by
  have hb : ∀ s t, s < X.length → t < X.length → ((cl X r)[s]? = (cl X r)[t]? ↔ (cl X (r + 1))[s]? = (cl X (r + 1))[t]?) := fun s t hs ht => by
    rw [← getD_opt (by rw [cl_len]; exact hs) (by rw [cl_len]; exact ht), ← getD_opt (by rw [cl_len]; exact hs) (by rw [cl_len]; exact ht)]
    constructor
    · exact h s t hs ht
    · intro e
      exact (cl_bis ok r s t hs ht).mpr (bis_down ((cl_bis ok (r + 1) s t hs ht).mp e))
  cases r with
  | zero =>
    have e0 : numb (List.replicate X.length 0) = List.replicate X.length 0 := by
      have hz : ∀ xs : List Nat, (∀ x ∈ xs, x = 0) → pos xs 0 = 0 := fun xs hx => by
        cases xs with
        | nil => rfl
        | cons x r =>
          have := hx x List.mem_cons_self
          unfold pos
          rw [if_pos this]
      unfold numb
      rw [List.map_replicate, hz _ fun x m => (List.mem_replicate.mp (first_mem.mp m)).2]
    show numb (X.map (sig (cl X 0))) = List.replicate X.length 0
    rw [← e0]
    refine numb_pat (by rw [List.length_map, List.length_replicate]) fun i j hi hj => ?_
    rw [List.length_map] at hi hj
    have h1 := hb i j hi hj
    have ea : (X.map (sig (cl X 0)))[i]? = some (sig (cl X 0) X[i]) := by rw [List.getElem?_map, List.getElem?_eq_getElem hi]; rfl
    have eb : (X.map (sig (cl X 0)))[j]? = some (sig (cl X 0) X[j]) := by rw [List.getElem?_map, List.getElem?_eq_getElem hj]; rfl
    have h2 := numb_inj ea eb
    show _ ↔ (cl X 0)[i]? = (cl X 0)[j]?
    rw [h1]
    show _ ↔ (numb (X.map (sig (cl X 0))))[i]? = (numb (X.map (sig (cl X 0))))[j]?
    rw [h2, ea, eb]
    constructor
    · intro e; exact Option.some.inj e
    · intro e; rw [e]
  | succ r =>
    show numb (X.map (sig (cl X (r + 1)))) = numb (X.map (sig (cl X r)))
    refine numb_pat (by rw [List.length_map, List.length_map]) fun i j hi hj => ?_
    rw [List.length_map] at hi hj
    have h1 := hb i j hi hj
    have ea : ∀ r, (X.map (sig (cl X r)))[i]? = some (sig (cl X r) X[i]) := fun r => by rw [List.getElem?_map, List.getElem?_eq_getElem hi]; rfl
    have eb : ∀ r, (X.map (sig (cl X r)))[j]? = some (sig (cl X r) X[j]) := fun r => by rw [List.getElem?_map, List.getElem?_eq_getElem hj]; rfl
    have h2 := numb_inj (ea r) (eb r)
    have h3 := numb_inj (ea (r + 1)) (eb (r + 1))
    have h1 : (numb (X.map (sig (cl X r))))[i]? = (numb (X.map (sig (cl X r))))[j]? ↔ (numb (X.map (sig (cl X (r + 1)))))[i]? = (numb (X.map (sig (cl X (r + 1)))))[j]? := h1
    rw [h2, h3] at h1
    rw [ea, eb, ea, eb]
    constructor
    · intro e; rw [h1.mpr (Option.some.inj e)]
    · intro e; rw [h1.mp (Option.some.inj e)]
end
/-! ### how long it may take -/
def pairs (n : Nat) : List (Nat × Nat) := (List.range n).flatMap fun i => (List.range n).map fun j => (i, j)
theorem pairs_mem {n i j : Nat} (hi : i < n) (hj : j < n) : (i, j) ∈ pairs n := List.mem_flatMap.mpr ⟨i, List.mem_range.mpr hi, List.mem_map.mpr ⟨j, List.mem_range.mpr hj, rfl⟩⟩
theorem sum_same (n : Nat) : ∀ l : List Nat, (l.map fun _ => n).sum = l.length * n
  | [] => by simp
  | x :: r => by
    rw [List.map_cons, List.sum_cons, sum_same n r, List.length_cons, Nat.add_mul]
    omega
theorem pairs_len (n : Nat) : (pairs n).length = n * n := by
  unfold pairs
  rw [List.length_flatMap]
  have e : ((List.range n).map fun i => ((List.range n).map fun j => (i, j)).length) = (List.range n).map fun _ => n := List.map_congr_left fun i _ => by rw [List.length_map, List.length_range]
  rw [e, sum_same, List.length_range]
theorem pairs_lt {n : Nat} {p : Nat × Nat} (h : p ∈ pairs n) : p.1 < n ∧ p.2 < n := by
  obtain ⟨i, hi, h⟩ := List.mem_flatMap.mp h
  obtain ⟨j, hj, rfl⟩ := List.mem_map.mp h
  exact ⟨List.mem_range.mp hi, List.mem_range.mp hj⟩
def alike {κ : Type} [DecidableEq κ] (n : Nat) (c : Nat → κ) : Nat := (pairs n).countP fun p => decide (c p.1 = c p.2)
theorem alike_le {κ : Type} [DecidableEq κ] (n : Nat) (c : Nat → κ) : alike n c ≤ n * n := by
  rw [← pairs_len]
  exact List.countP_le_length
theorem countP_lt {α : Type} {p q : α → Bool} : ∀ {l : List α}, (∀ x ∈ l, q x = true → p x = true) → (∃ x ∈ l, p x = true ∧ q x = false) → l.countP q < l.countP p
  | [], _, h => by
    obtain ⟨x, m, _⟩ := h
    cases m
  | a :: r, h, hx => by
    have hr : r.countP q ≤ r.countP p := List.countP_mono_left fun x m hq => h x (List.mem_cons_of_mem _ m) hq
    rw [List.countP_cons, List.countP_cons]
    obtain ⟨x, m, h1, h2⟩ := hx
    rcases List.mem_cons.mp m with rfl | m
    · rw [h1, h2]
      simp
      omega
    · have := countP_lt (fun x m hq => h x (List.mem_cons_of_mem _ m) hq) ⟨x, m, h1, h2⟩
      by_cases ha : q a = true
      · rw [if_pos ha, if_pos (h a List.mem_cons_self ha)]
        omega
      · rw [if_neg ha]
        omega
theorem alike_lt {κ κ' : Type} [DecidableEq κ] [DecidableEq κ'] {n : Nat} {c : Nat → κ} {d : Nat → κ'} (h : ∀ i j, i < n → j < n → d i = d j → c i = c j) (hx : ∃ i j, i < n ∧ j < n ∧ c i = c j ∧ d i ≠ d j) : alike n d < alike n c := by
  refine countP_lt (fun p m hq => ?_) ?_
  · obtain ⟨h1, h2⟩ := pairs_lt m
    exact decide_eq_true (h _ _ h1 h2 (of_decide_eq_true hq))
  · obtain ⟨i, j, hi, hj, e, ne⟩ := hx
    exact ⟨(i, j), pairs_mem hi hj, decide_eq_true e, decide_eq_false ne⟩
section
variable {many : Nat} {X : Mc}
theorem cl_less (ok : OkM many X) {r : Nat} (h : cl X (r + 1) ≠ cl X r) : alike X.length (fun s => (cl X (r + 1)).getD s 0) < alike X.length (fun s => (cl X r).getD s 0) := by
  refine alike_lt (fun i j hi hj e => (cl_bis ok r i j hi hj).mpr (bis_down ((cl_bis ok (r + 1) i j hi hj).mp e))) ?_
  refine Classical.byContradiction fun no => h (cl_same ok r fun s t hs ht e => ?_)
  refine Classical.byContradiction fun ne => no ⟨s, t, hs, ht, e, ne⟩
/-- one row of each class -/
def mer (X : Mc) (r : Nat) : Mc := first (X.map (sig (cl X r)))
theorem cls_at {r : Nat} (h : cl X (r + 1) = cl X r) {s : Nat} (hs : s < X.length) : (cl X r).getD s 0 = pos (mer X r) (sig (cl X r) X[s]) := by
  have ea : (X.map (sig (cl X r)))[s]? = some (sig (cl X r) X[s]) := by rw [List.getElem?_map, List.getElem?_eq_getElem hs]; rfl
  have e := numb_at ea
  have e : (cl X (r + 1))[s]? = some (pos (mer X r) (sig (cl X r) X[s])) := e
  rw [h] at e
  rw [List.getD_eq_getElem?_getD, e]
  rfl
theorem mer_row {r : Nat} (h : cl X (r + 1) = cl X r) {s : Nat} (hs : s < X.length) : (mer X r)[(cl X r).getD s 0]? = some (sig (cl X r) X[s]) := by
  rw [cls_at h hs]
  exact (pos_lt (first_mem.mpr (List.mem_map.mpr ⟨_, List.getElem_mem hs, rfl⟩))).2
theorem mer_cell (ok : OkM many X) {r : Nat} (h : cl X (r + 1) = cl X r) {s l : Nat} (hs : s < X.length) (hl : l < 2 ^ many) : cell (mer X r) ((cl X r).getD s 0) l = ((cl X r).getD (cell X s l).1 0, (cell X s l).2) := by
  obtain ⟨row, h1, h2, _, _⟩ := cell_at ok hs hl
  rw [List.getElem?_eq_getElem hs] at h1
  cases h1
  have e := mer_row h hs
  generalize (cl X r).getD s 0 = k at e ⊢
  unfold cell at h2 ⊢
  rw [List.getD_eq_getElem?_getD (l := mer X r), e, Option.getD_some, List.getD_eq_getElem?_getD]
  unfold sig
  rw [List.getElem?_map, h2]
  rfl
theorem mer_ok (ok : OkM many X) {r : Nat} (h : cl X (r + 1) = cl X r) : OkM many (mer X r) := by
  have in0 : X[0]'ok.pos ∈ X := List.getElem_mem ok.pos
  have m0 : sig (cl X r) (X[0]'ok.pos) ∈ mer X r := first_mem.mpr (List.mem_map.mpr ⟨_, in0, rfl⟩)
  refine ⟨List.length_pos_of_mem m0, fun q mq => ?_⟩
  obtain ⟨row, mr, rfl⟩ := List.mem_map.mp (first_mem.mp mq)
  have ro := ok.row row mr
  refine ⟨by unfold sig; rw [List.length_map]; exact ro.len, fun p mp => ?_, fun p mp => ?_⟩
  · obtain ⟨z, mz, rfl⟩ := List.mem_map.mp mp
    have hz := ro.goal z mz
    exact (List.getElem?_eq_some_iff.mp (mer_row h hz)).1
  · obtain ⟨z, mz, rfl⟩ := List.mem_map.mp mp
    exact ro.bit z mz
theorem mer_beh (ok : OkM many X) {r : Nat} (h : cl X (r + 1) = cl X r) {s : Nat} (hs : s < X.length) : beh many (mer X r) X ((cl X r).getD s 0) s := by
  refine beh_of (fun p s => s < X.length ∧ p = (cl X r).getD s 0) (fun p s ⟨hs, e⟩ l hl => ?_) ⟨hs, rfl⟩
  subst e
  rw [mer_cell ok h hs hl]
  exact ⟨rfl, (cell_at ok hs hl).choose_spec.2.2.1, rfl⟩
theorem mer_red (ok : OkM many X) {r : Nat} (h : cl X (r + 1) = cl X r) : Red many (mer X r) := fun p q hp hq hb => by
  have back : ∀ p, p < (mer X r).length → ∃ s, s < X.length ∧ (cl X r).getD s 0 = p := fun p hp => by
    obtain ⟨row, mr, e⟩ := List.mem_map.mp (first_mem.mp (List.getElem_mem hp))
    obtain ⟨s, hs, rfl⟩ := List.getElem_of_mem mr
    refine ⟨s, hs, ?_⟩
    rw [cls_at h hs, e]
    exact pos_at (first_nodup _) (List.getElem?_eq_getElem hp)
  obtain ⟨s, hs, rfl⟩ := back p hp
  obtain ⟨t, ht, rfl⟩ := back q hq
  have b := ((mer_beh ok h hs).symm.trans hb).trans (mer_beh ok h ht)
  exact (cl_bis ok r s t hs ht).mpr (b r)
theorem mer_zero (ok : OkM many X) {r : Nat} (h : cl X (r + 1) = cl X r) : (cl X r).getD 0 0 = 0 := by
  rw [cls_at h ok.pos]
  obtain ⟨l, e⟩ := first_take (X.map (sig (cl X r))) 1
  have e1 : (X.map (sig (cl X r))).take 1 = [sig (cl X r) (X[0]'ok.pos)] := by
    cases X with
    | nil => exact absurd ok.pos (by simp)
    | cons x xs => rfl
  unfold mer
  rw [e, e1]
  show pos ([sig (cl X r) (X[0]'ok.pos)] ++ l) _ = 0
  rw [pos_app, if_pos List.mem_cons_self]
  unfold pos
  rw [if_pos rfl]
end
/-! ### the least machine -/
section
variable {many : Nat} {M : Mc}
/-- least, numbered as it is met, writing what M writes -/
structure Lst (many : Nat) (M D : Mc) : Prop where
  ok : OkM many D
  red : Red many D
  met : Met 0 1 D
  beh : beh many D M 0 0
theorem Lst.one {M' D D' : Mc} (h : Lst many M D) (h' : Lst many M' D') (e : LM.beh many M M' 0 0) : D = D' := LM.one h.ok h'.ok h.red h'.red h.met h'.met ((h.beh.trans e).trans h'.beh.symm)
theorem id_cong (X : Mc) : Cong many X (fun s : Nat => s) := fun s t _ _ e l _ => by
  have e : s = t := e
  subst e
  exact ⟨rfl, rfl⟩
theorem lst_of (ok : OkM many M) {r : Nat} (h : cl (quo (fun s => s) M) (r + 1) = cl (quo (fun s => s) M) r) : Lst many M (quo (fun s => s) (mer (quo (fun s => s) M) r)) := by
  have ok1 : OkM many (quo (fun s => s) M) := quo_ok ok
  have ok2 := mer_ok ok1 h
  refine ⟨quo_ok ok2, quo_red ok2 (id_cong _) (fun s t hs ht b => mer_red ok1 h s t hs ht b), quo_met0 ok2, ?_⟩
  have b1 := quo_zero (c := fun s : Nat => s) ok2 (id_cong _)
  have b2 := mer_beh ok1 h (s := 0) ok1.pos
  rw [mer_zero ok1 h] at b2
  exact (b1.trans b2).trans (quo_zero ok (id_cong _))
end
end Mi.LM
/-! Classes by marks: the law's way. -/
namespace Mi.LM
open PySem
open TA
theorem nodup_len {α : Type} [DecidableEq α] : ∀ (l D : List α), l.Nodup → (∀ x ∈ l, x ∈ D) → l.length ≤ D.length
  | [], D, _, _ => Nat.zero_le _
  | a :: r, D, h, hs => by
    have hn := List.nodup_cons.mp h
    have ha : a ∈ D := hs a List.mem_cons_self
    have := nodup_len r (D.erase a) hn.2 fun x m => (List.mem_erase_of_ne (fun (e : x = a) => hn.1 (by rw [← e]; exact m))).mpr (hs x (List.mem_cons_of_mem _ m))
    rw [List.length_erase_of_mem ha] at this
    have := List.length_pos_of_mem ha
    rw [List.length_cons]
    omega
theorem nub_map {A B : List (List Int)} (hl : A.length = B.length) (h : ∀ i j : Nat, i < A.length → j < A.length → B[i]? = B[j]? → A[i]? = A[j]?) :
    ((nub A).map fun x => B.getD (pos A x) []).Nodup ∧ (∀ y ∈ (nub A).map fun x => B.getD (pos A x) [], y ∈ nub B) ∧ ∀ (x : List Int) (i : Nat), x ∈ nub A → B[i]? = some (B.getD (pos A x) []) → i < A.length → A[i]? = some x := by
  have at1 : ∀ x, x ∈ nub A → pos A x < A.length ∧ A[pos A x]? = some x ∧ B[pos A x]? = some (B.getD (pos A x) []) := fun x m => by
    obtain ⟨h1, h2⟩ := pos_lt (nub_mem.mp m)
    refine ⟨h1, h2, ?_⟩
    rw [List.getD_eq_getElem?_getD, List.getElem?_eq_getElem (by omega)]
    rfl
  have back : ∀ (x : List Int) (i : Nat), x ∈ nub A → B[i]? = some (B.getD (pos A x) []) → i < A.length → A[i]? = some x := fun x i m e hi => by
    obtain ⟨h1, h2, h3⟩ := at1 x m
    rw [h i (pos A x) hi h1 (by rw [e, h3]), h2]
  refine ⟨?_, fun y m => ?_, back⟩
  · refine List.pairwise_map.mpr ((nub_nodup A).imp_of_mem fun {x y} mx my ne e => ne ?_)
    obtain ⟨h1, h2, h3⟩ := at1 y my
    have := back x (pos A y) mx (by rw [h3, e]) h1
    rw [h2] at this
    exact (Option.some.inj this).symm
  · obtain ⟨x, mx, rfl⟩ := List.mem_map.mp m
    obtain ⟨_, _, h3⟩ := at1 x mx
    exact nub_mem.mpr (List.mem_of_getElem? h3)
theorem nub_le {A B : List (List Int)} (hl : A.length = B.length) (h : ∀ i j : Nat, i < A.length → j < A.length → B[i]? = B[j]? → A[i]? = A[j]?) : (nub A).length ≤ (nub B).length := by
  obtain ⟨h1, h2, _⟩ := nub_map hl h
  have := nodup_len _ _ h1 h2
  rwa [List.length_map] at this
theorem nub_stable {A B : List (List Int)} (hl : A.length = B.length) (h : ∀ i j : Nat, i < A.length → j < A.length → B[i]? = B[j]? → A[i]? = A[j]?) (e : (nub B).length = (nub A).length) : ∀ i j : Nat, i < A.length → j < A.length → A[i]? = A[j]? → B[i]? = B[j]? := fun i j hi hj ea => by
  refine Classical.byContradiction fun ne => ?_
  obtain ⟨h1, h2, h3⟩ := nub_map hl h
  have ai : A[i]? = some A[i] := List.getElem?_eq_getElem hi
  have aj : A[j]? = some A[i] := by rw [← ea, ai]
  have ma : A[i] ∈ nub A := nub_mem.mpr (List.getElem_mem hi)
  have key : ∀ k, k < A.length → A[k]? = some A[i] → B[k]? ≠ some (B.getD (pos A A[i]) []) → False := fun k hk eak nk => by
    have bk : B[k]? = some (B[k]'(by omega)) := List.getElem?_eq_getElem (by omega)
    have nd : ((B[k]'(by omega)) :: (nub A).map fun x => B.getD (pos A x) []).Nodup := by
      refine List.nodup_cons.mpr ⟨fun m => ?_, h1⟩
      obtain ⟨x, mx, ex⟩ := List.mem_map.mp m
      have := h3 x k mx (by rw [bk, ← ex]) hk
      rw [eak] at this
      have := Option.some.inj this
      rw [← this] at ex
      exact nk (by rw [bk, ← ex])
    have := nodup_len _ (nub B) nd fun y m => by
      rcases List.mem_cons.mp m with rfl | m
      · exact nub_mem.mpr (List.getElem_mem _)
      · exact h2 y m
    rw [List.length_cons, List.length_map] at this
    omega
  by_cases q : B[i]? = some (B.getD (pos A A[i]) [])
  · exact key j hj aj fun q2 => ne (by rw [q, q2])
  · exact key i hi ai q
/-! ### marks -/
def bitsI (r : List (Nat × Nat)) : List Int := r.map fun p => ((p.2 : Nat) : Int)
def jdx (ms : List (List Int)) : List Nat := ms.map (pos (sset ms))
def markR (js : List Nat) (j : Nat) (r : List (Nat × Nat)) : List Int := (j : Int) :: r.map fun p => ((js.getD p.1 0 : Nat) : Int)
def mk (X : Mc) : Nat → List (List Int)
  | 0 => X.map bitsI
  | r + 1 => List.zipWith (markR (jdx (mk X r))) (jdx (mk X r)) X
theorem jdx_len (ms : List (List Int)) : (jdx ms).length = ms.length := List.length_map _
theorem mk_len (X : Mc) : ∀ r, (mk X r).length = X.length
  | 0 => List.length_map _
  | r + 1 => by
    show (List.zipWith _ _ X).length = _
    rw [List.length_zipWith, jdx_len, mk_len X r]
    omega
theorem sset_mem {ks : List (List Int)} {k : List Int} : k ∈ sset ks ↔ k ∈ ks := by
  rw [(sset_perm ks).mem_iff, nub_mem]
theorem jdx_at {ms : List (List Int)} {s : Nat} {m : List Int} (h : ms[s]? = some m) : (jdx ms)[s]? = some (pos (sset ms) m) := by
  unfold jdx
  rw [List.getElem?_map, h]
  rfl
theorem jdx_inj {ms : List (List Int)} {s t : Nat} (hs : s < ms.length) (ht : t < ms.length) : (jdx ms).getD s 0 = (jdx ms).getD t 0 ↔ ms[s]? = ms[t]? := by
  have e1 : ms[s]? = some ms[s] := List.getElem?_eq_getElem hs
  have e2 : ms[t]? = some ms[t] := List.getElem?_eq_getElem ht
  rw [List.getD_eq_getElem?_getD, List.getD_eq_getElem?_getD, jdx_at e1, jdx_at e2, e1, e2]
  constructor
  · intro h
    exact congrArg some (pos_inj (sset_mem.mpr (List.getElem_mem hs)) (sset_mem.mpr (List.getElem_mem ht)) h)
  · intro h
    rw [Option.some.inj h]
theorem jdx_lt {ms : List (List Int)} {s : Nat} (hs : s < ms.length) : (jdx ms).getD s 0 < ms.length := by
  have e1 : ms[s]? = some ms[s] := List.getElem?_eq_getElem hs
  rw [List.getD_eq_getElem?_getD, jdx_at e1]
  have h1 := (pos_lt (sset_mem.mpr (List.getElem_mem hs))).1
  have h2 : (sset ms).length = (nub ms).length := (sset_perm ms).length_eq
  have h3 := nodup_len (nub ms) ms (nub_nodup ms) fun x m => nub_mem.mp m
  show pos (sset ms) ms[s] < _
  omega
theorem mk_at {X : Mc} {r s : Nat} (hs : s < X.length) : (mk X (r + 1))[s]? = some (markR (jdx (mk X r)) ((jdx (mk X r)).getD s 0) X[s]) := by
  have e1 : (mk X r)[s]? = some ((mk X r)[s]'(by rw [mk_len]; exact hs)) := List.getElem?_eq_getElem (by rw [mk_len]; exact hs)
  show (List.zipWith _ _ X)[s]? = _
  rw [List.getElem?_zipWith, jdx_at e1, List.getElem?_eq_getElem hs, List.getD_eq_getElem?_getD, jdx_at e1]
  rfl
section
variable {many : Nat} {X : Mc}
theorem row_all (ok : OkM many X) {s t : Nat} (hs : s < X.length) (ht : t < X.length) {f : Nat × Nat → Int} : X[s].map f = X[t].map f ↔ ∀ l, l < 2 ^ many → f (cell X s l) = f (cell X t l) := by
  have r1 := ok.row _ (List.getElem_mem hs)
  have r2 := ok.row _ (List.getElem_mem ht)
  have at1 : ∀ {s} (hs : s < X.length) l, l < 2 ^ many → X[s][l]? = some (cell X s l) := fun {s} hs l hl => by
    obtain ⟨row, h1, h2, _, _⟩ := cell_at ok hs hl
    rw [List.getElem?_eq_getElem hs] at h1
    cases h1
    exact h2
  constructor
  · intro e l hl
    have := congrArg (fun x => x[l]?) e
    simp only [List.getElem?_map] at this
    rw [at1 hs l hl, at1 ht l hl] at this
    exact Option.some.inj this
  · intro h
    apply List.ext_getElem?
    intro l
    rw [List.getElem?_map, List.getElem?_map]
    by_cases hl : l < 2 ^ many
    · rw [at1 hs l hl, at1 ht l hl]
      exact congrArg some (h l hl)
    · rw [List.getElem?_eq_none (by rw [r1.len]; omega), List.getElem?_eq_none (by rw [r2.len]; omega)]
theorem mk_bis (ok : OkM many X) : ∀ (r s t : Nat), s < X.length → t < X.length → ((mk X r)[s]? = (mk X r)[t]? ↔ bis many X X (r + 1) s t)
  | 0, s, t, hs, ht => by
    show (X.map bitsI)[s]? = (X.map bitsI)[t]? ↔ _
    rw [List.getElem?_map, List.getElem?_map, List.getElem?_eq_getElem hs, List.getElem?_eq_getElem ht]
    have := row_all ok hs ht (f := fun p => ((p.2 : Nat) : Int))
    constructor
    · intro h l hl
      have e := (this.mp (Option.some.inj h)) l hl
      exact ⟨Int.ofNat.inj e, trivial⟩
    · intro h
      exact congrArg some (this.mpr fun l hl => congrArg Int.ofNat (h l hl).1)
  | r + 1, s, t, hs, ht => by
    rw [mk_at hs, mk_at ht]
    have hg : ∀ {s l}, s < X.length → l < 2 ^ many → (cell X s l).1 < X.length := fun hs hl => (cell_at ok hs hl).choose_spec.2.2.1
    have jl := mk_len X r
    have js : ∀ s t, s < X.length → t < X.length → ((jdx (mk X r)).getD s 0 = (jdx (mk X r)).getD t 0 ↔ bis many X X (r + 1) s t) := fun s t hs ht => by
      rw [jdx_inj (by omega) (by omega)]
      exact mk_bis ok r s t hs ht
    have ra := row_all ok hs ht (f := fun p => (((jdx (mk X r)).getD p.1 0 : Nat) : Int))
    constructor
    · intro h
      have h := Option.some.inj h
      unfold markR at h
      obtain ⟨h1, h2⟩ := List.cons.inj h
      have b := (js s t hs ht).mp (Int.ofNat.inj h1)
      intro l hl
      exact ⟨(b l hl).1, (js _ _ (hg hs hl) (hg ht hl)).mp (Int.ofNat.inj (ra.mp h2 l hl))⟩
    · intro h
      have b : bis many X X (r + 1) s t := bis_down h
      unfold markR
      rw [(js s t hs ht).mpr b, ra.mpr fun l hl => congrArg Int.ofNat ((js _ _ (hg hs hl) (hg ht hl)).mpr (h l hl).2)]
theorem getD_opt' {c : List (List Int)} {i j : Nat} (hi : i < c.length) (hj : j < c.length) : c.getD i [] = c.getD j [] ↔ c[i]? = c[j]? := by
  rw [List.getD_eq_getElem?_getD, List.getD_eq_getElem?_getD, List.getElem?_eq_getElem hi, List.getElem?_eq_getElem hj]
  constructor
  · intro h; exact congrArg some h
  · intro h; exact Option.some.inj h
theorem mk_fine (ok : OkM many X) (r : Nat) : ∀ i j : Nat, i < (mk X r).length → j < (mk X r).length → (mk X (r + 1))[i]? = (mk X (r + 1))[j]? → (mk X r)[i]? = (mk X r)[j]? := fun i j hi hj e => by
  rw [mk_len] at hi hj
  exact (mk_bis ok r i j hi hj).mpr (bis_down ((mk_bis ok (r + 1) i j hi hj).mp e))
theorem mk_stop (ok : OkM many X) {r : Nat} (h : (nub (mk X (r + 1))).length = (nub (mk X r)).length) : Cong many X (fun s => (mk X (r + 1)).getD s []) ∧ ∀ s t, s < X.length → t < X.length → beh many X X s t → (mk X (r + 1)).getD s [] = (mk X (r + 1)).getD t [] := by
  have st := nub_stable (by rw [mk_len, mk_len]) (mk_fine ok r) h
  have l1 := mk_len X (r + 1)
  have l0 := mk_len X r
  refine ⟨fun s t hs ht e l hl => ?_, fun s t hs ht b => ?_⟩
  · have e : (mk X (r + 1)).getD s [] = (mk X (r + 1)).getD t [] := e
    rw [getD_opt' (by omega) (by omega)] at e
    obtain ⟨g1, g2⟩ := (mk_bis ok (r + 1) s t hs ht).mp e l hl
    have h1 := (cell_at ok hs hl).choose_spec.2.2.1
    have h2 := (cell_at ok ht hl).choose_spec.2.2.1
    refine ⟨g1, ?_⟩
    show (mk X (r + 1)).getD _ [] = (mk X (r + 1)).getD _ []
    rw [getD_opt' (by omega) (by omega)]
    exact st _ _ (by omega) (by omega) ((mk_bis ok r _ _ h1 h2).mpr g2)
  · rw [getD_opt' (by omega) (by omega)]
    exact (mk_bis ok (r + 1) s t hs ht).mpr (b _)
theorem mk_less (ok : OkM many X) {r : Nat} (h : (nub (mk X (r + 1))).length ≠ (nub (mk X r)).length) : alike X.length (fun s => (mk X (r + 1)).getD s []) < alike X.length (fun s => (mk X r).getD s []) := by
  have l1 := mk_len X (r + 1)
  have l0 := mk_len X r
  refine alike_lt (fun i j hi hj e => ?_) ?_
  · have e : (mk X (r + 1)).getD i [] = (mk X (r + 1)).getD j [] := e
    rw [getD_opt' (by omega) (by omega)] at e
    show (mk X r).getD i [] = (mk X r).getD j []
    rw [getD_opt' (by omega) (by omega)]
    exact mk_fine ok r i j (by omega) (by omega) e
  · refine Classical.byContradiction fun no => h (Nat.le_antisymm (nub_le (by omega) fun i j hi hj e => ?_) (nub_le (by omega) (mk_fine ok r)))
    refine Classical.byContradiction fun ne => no ⟨i, j, by omega, by omega, ?_, ?_⟩
    · show (mk X r).getD i [] = (mk X r).getD j []
      rw [getD_opt' (by omega) (by omega)]
      exact e
    · show (mk X (r + 1)).getD i [] ≠ (mk X (r + 1)).getD j []
      rw [Ne, getD_opt' (by omega) (by omega)]
      exact ne
theorem lst_mk (ok : OkM many X) {r : Nat} (h : (nub (mk X (r + 1))).length = (nub (mk X r)).length) : Lst many X (quo (fun s => (mk X (r + 1)).getD s []) X) := by
  obtain ⟨h1, h2⟩ := mk_stop ok h
  exact ⟨quo_ok ok, quo_red ok h1 h2, quo_met0 ok, quo_zero ok h1⟩
end
end Mi.LM
namespace Mi.BA
open PySem L2

def m__law_bag (ns : List Int) : MS Unit :=
  (mSeq (mPar 1 2 (mConsV (mRv (mKeep (mLc (mItems (mKeep (mScrCut ns 63 (mV 0)))) (gN 3) mYes (mBin addD (mBin mulD (mC (.int 2)) (mCall absD (mCons (mV 3) mNil))) (mCall intD (mCons (mBin ltD (mV 3) (mC (.int 0))) mNil))) [3]))) (mConsV (mRv (mBin addD (mC (.int 15029)) (mBin mulD (mC (.int 13)) (mScrLen ns (mV 0))))) mNilV)))
  (mSeq (mFor (mItems (mV 1)) (gN 3) (mSet 2 (mRv (mBin modD (mCall intD (mCons (mBin addD (mBin addD (mBin mulD (mV 2) (mC (.int 69621))) (mV 3)) (mC (.int 9))) mNil)) (mC (.int 4294967291))))))
  (mRet (mKeep (mDict [.inr "far", .inr "stirred", .inr "count"] (mCons (mKeep (mLc (mItems (mV 1)) (gN 3) (mTest (mBin gtD (mV 3) (mBin powD (mC (.int 10)) (mC (.int 15))))) (mV 3) [3])) (mCons (mV 2) (mCons (mC (.int 0)) mNil))))))))
def f__law_bag : List Int → Option PyData := mFunS 4 m__law_bag

def m__law_draw : MS Tr :=
  (mSeq (mSet 2 (mRv (mFar (mV 0))))
  (mSeq (mIfS (mFarNe (mV 2)) (mSeq (mSet 4 (mRv (mFarAt (mV 2) (mC (.int 0)))))
  (mSeq (mFarPut (mV 2) (mC (.int 0)) (mBin fdivD (mV 4) (mV 1)))
  (mSeq (mIfS (mTest (mBin ltD (mV 4) (mV 1))) (mDrop (mPop0 (mV 2))) mSkip)
  (mRet (mBin modD (mCall intD (mCons (mV 4) mNil)) (mV 1)))))) mSkip)
  (mSeq (mTput "far" "count" (mV 0) (mBin addD (mTget "far" "count" (mV 0)) (mC (.int 1))))
  (mSeq (mSet 3 (mRv (mBin modD (mCall intD (mCons (mBin addD (mTget "far" "stirred" (mV 0)) (mBin mulD (mC (.int 2654435761)) (mTget "far" "count" (mV 0)))) mNil)) (mC (.int 4294967291)))))
  (mSeq (mSet 3 (mRv (mBin modD (mCall intD (mCons (mBin addD (mBin addD (mBin mulD (mV 3) (mV 3)) (mBin mulD (mC (.int 40503)) (mTget "far" "count" (mV 0)))) (mC (.int 5))) mNil)) (mC (.int 4294967279)))))
  (mSeq (mSet 3 (mRv (mBin modD (mCall intD (mCons (mBin addD (mBin mulD (mV 3) (mV 3)) (mTget "far" "stirred" (mV 0))) mNil)) (mC (.int 4294967231)))))
  (mRet (mBin modD (mCall intD (mCons (mBin fdivD (mV 3) (mC (.int 512))) mNil)) (mV 1)))))))))
def f__law_draw : Tr → List PyData → Option (PyData × Tr) := mFunT 5 [true] m__law_draw

def m__law_pick : MS Tr :=
  (mRet (mBin ixD (mV 1) (mCallT [true] f__law_draw (mCons (mV 0) (mCons (mCall lenD (mCons (mV 1) mNil)) mNil)))))
def f__law_pick : Tr → List PyData → Option (PyData × Tr) := mFunT 2 [true] m__law_pick

def m__law_mixed : MS Tr :=
  (mSeq (mPar 2 3 (mConsV (mNew (mListL (mCons (mV 1) mNil))) (mConsV (mNew (mLst mNil)) mNilV)))
  (mSeq (whileN (mTest (mBin neD (mV 2) (mKeep (mLst mNil)))) (mAppP 3 2 (mPopAt 2 (mCallT [true] f__law_draw (mCons (mV 0) (mCons (mCall lenD (mCons (mV 2) mNil)) mNil))))) 100)
  (mRet (mV 3))))
def f__law_mixed : Tr → List PyData → Option (PyData × Tr) := mFunT 4 [true] m__law_mixed

end Mi.BA
/-! What the second family's bag draws. -/
namespace Mi
open PySem L2
namespace BA
def esOf (s k : Int) : List (Str × Int) := [(Str.ofString "stirred", s), (Str.ofString "count", k)]
def TrOk (n : Int) (t : Tr) : Prop := ∃ s k : Int, t.es = esOf s k ∧ 0 ≤ s ∧ s < 4294967291 ∧ 0 ≤ k ∧ k ≤ n ∧ t.far.length ≤ 63
theorem TrOk.mono {n m : Int} {t : Tr} (h : TrOk n t) (le : n ≤ m) : TrOk m t := by
  obtain ⟨s, k, e, h1, h2, h3, h4, h5⟩ := h
  exact ⟨s, k, e, h1, h2, h3, by omega, h5⟩
theorem modI (x : Int) {M : Int} (h : 0 < M) : ∃ a : Int, x % M = a ∧ 0 ≤ a ∧ a < M := ⟨_, rfl, Int.emod_nonneg _ (by omega), Int.emod_lt_of_pos _ h⟩
theorem k1 : Str.ofString "far" ≠ Str.ofString "count" := by decide
theorem k2 : Str.ofString "far" ≠ Str.ofString "stirred" := by decide
theorem k3 : Str.ofString "stirred" ≠ Str.ofString "count" := by decide
theorem ixN0 (n : Nat) : ixN (n + 1) 0 = some 0 := by
  unfold ixN
  rw [if_pos (by omega), if_pos (by omega)]
  rfl
theorem draw_far {c : Int} {r : List Int} {es : List (Str × Int)} {m : Nat} (h2 : 1 ≤ m) (hm : m < 2 ^ 4000) : f__law_draw ⟨c :: r, es⟩ [.int m] = some (.int (c % m), ⟨if c < (m : Int) then r else c / m :: r, es⟩) := by
  have hmod : 0 < m := by omega
  have hd : m.log2 < 9000 := log_small hm
  by_cases hc : c < (m : Int)
  · simp [f__law_draw, mFunT, m__law_draw, entryT, slotsOf, mSeq, mIfS, mTest, mBin, mV, mC, rd, ltD, flat, mSkip, mFarNe, mFar, mSet, mRv, mPop0, mFarAt, mFarPut, mDrop, atI, ixN0, fdivD, mRet, mCall, mCons, mNil, rds, intD, modD, hc, hmod, hd]
  · simp [f__law_draw, mFunT, m__law_draw, entryT, slotsOf, mSeq, mIfS, mTest, mBin, mV, mC, rd, ltD, flat, mSkip, mFarNe, mFar, mSet, mRv, mPop0, mFarAt, mFarPut, mDrop, atI, ixN0, fdivD, mRet, mCall, mCons, mNil, rds, intD, modD, hc, hmod, hd]
theorem small_nat {a : Int} {k : Nat} (h0 : 0 ≤ a) (h : a < 2 ^ k) : a.natAbs < 2 ^ k := by
  obtain ⟨n, rfl⟩ := Int.eq_ofNat_of_zero_le h0
  rw [Int.natAbs_natCast]
  exact_mod_cast h
theorem draw_turn {s k : Int} {m : Nat} (h2 : 1 ≤ m) (hs0 : 0 ≤ s) (hs : s < 4294967291) (hk0 : 0 ≤ k) (hk : k ≤ 1000000000) : ∃ r : Int, 0 ≤ r ∧ r < m ∧ f__law_draw ⟨[], esOf s k⟩ [.int m] = some (.int r, ⟨[], esOf s (k + 1)⟩) := by
  have hmod : 0 < m := by omega
  have em : mulI 2654435761 (k + 1) = some (.int (2654435761 * (k + 1))) := mulI_ok (a := 40) (b := 40) (by decide) (small_nat (by omega) (by omega)) (by decide)
  have em2 : mulI 40503 (k + 1) = some (.int (40503 * (k + 1))) := mulI_ok (a := 40) (b := 40) (by decide) (small_nat (by omega) (by omega)) (by decide)
  have sq : ∀ a : Int, 0 ≤ a → a < 4294967300 → mulI a a = some (.int (a * a)) := fun a h0 ha => mulI_ok (a := 40) (b := 40) (small_nat h0 (by omega)) (small_nat h0 (by omega)) (by decide)
  obtain ⟨a, ea, a0, ha⟩ := modI (s + 2654435761 * (k + 1)) (M := 4294967291) (by decide)
  obtain ⟨b, eb, b0, hb⟩ := modI (a * a + 40503 * (k + 1) + 5) (M := 4294967279) (by decide)
  obtain ⟨c, ec, c0, hc⟩ := modI (b * b + s) (M := 4294967231) (by decide)
  have sa := sq a a0 (by omega)
  have sb := sq b b0 (by omega)
  refine ⟨c / 512 % m, Int.emod_nonneg _ (by omega), Int.emod_lt_of_pos _ (by omega), ?_⟩
  unfold f__law_draw mFunT m__law_draw esOf
  rw [seq_nx (ρ1 := [some (.tray 0), some (.bor (.int m)), some (.tray 1), none, none]) (t1 := ⟨[], esOf s k⟩) (by simp [entryT, slotsOf, mSet, mRv, mFar, mV, esOf])]
  rw [seq_nx (ρ1 := [some (.tray 0), some (.bor (.int m)), some (.tray 1), none, none]) (t1 := ⟨[], esOf s k⟩) (by simp [mIfS, mFarNe, mV, mSkip])]
  rw [seq_nx (ρ1 := [some (.tray 0), some (.bor (.int m)), some (.tray 1), none, none]) (t1 := ⟨[], esOf s (k + 1)⟩) (by
    simp [mTput, mBin, mTget, mV, mC, rd, addD, tget, tput, k1, k3, esOf]
    decide)]
  rw [seq_nx (ρ1 := [some (.tray 0), some (.bor (.int m)), some (.tray 1), some (.fro (.int a)), none]) (t1 := ⟨[], esOf s (k + 1)⟩) (by
    simp [mSet, mRv, mBin, mTget, mCall, mCons, mNil, rds, intD, mV, mC, rd, addD, mulD, modD, tget, k1, k2, k3, esOf, em, ea])]
  rw [seq_nx (ρ1 := [some (.tray 0), some (.bor (.int m)), some (.tray 1), some (.fro (.int b)), none]) (t1 := ⟨[], esOf s (k + 1)⟩) (by
    simp [mSet, mRv, mBin, mTget, mCall, mCons, mNil, rds, intD, mV, mC, rd, addD, mulD, modD, tget, k1, k2, k3, esOf, em2, sa, eb])]
  rw [seq_nx (ρ1 := [some (.tray 0), some (.bor (.int m)), some (.tray 1), some (.fro (.int c)), none]) (t1 := ⟨[], esOf s (k + 1)⟩) (by
    simp [mSet, mRv, mBin, mTget, mCall, mCons, mNil, rds, intD, mV, mC, rd, addD, mulD, modD, tget, k1, k2, k3, esOf, sb, ec])]
  have l512 : Nat.log2 512 < 9000 := by decide
  simp [mRet, mBin, mCall, mCons, mNil, rds, intD, mV, mC, rd, fdivD, modD, flat, hmod, l512, esOf]
/-- a draw -/
theorem draw {n : Int} {t : Tr} {m : Nat} (h : TrOk n t) (hn : n ≤ 1000000000) (h0 : 1 ≤ m) (hm : m < 2 ^ 4000) : ∃ (r : Nat) (t' : Tr), f__law_draw t [.int m] = some (.int r, t') ∧ TrOk (n + 1) t' ∧ r < m := by
  obtain ⟨s, k, e, h0, h1, h3, h4, h5⟩ := h
  obtain ⟨far, es⟩ := t
  cases (show es = esOf s k from e)
  cases far with
  | nil =>
    obtain ⟨r, r0, rm, er⟩ := draw_turn (m := m) (by omega) h0 h1 h3 (by omega)
    obtain ⟨r', rfl⟩ := Int.eq_ofNat_of_zero_le r0
    exact ⟨r', _, er, ⟨s, k + 1, rfl, h0, h1, by omega, by omega, Nat.zero_le _⟩, by omega⟩
  | cons c rest =>
    have hl : rest.length ≤ 62 := by
      have : (c :: rest).length ≤ 63 := h5
      rw [List.length_cons] at this
      omega
    have hp : (0 : Int) < m := by omega
    obtain ⟨r', hr'⟩ := Int.eq_ofNat_of_zero_le (Int.emod_nonneg c (b := (m : Int)) (by omega))
    have hr2 := Int.emod_lt_of_pos c hp
    refine ⟨r', _, by rw [draw_far (by omega) hm, hr'], ⟨s, k, rfl, h0, h1, h3, by omega, ?_⟩, by omega⟩
    show (if c < (m : Int) then rest else c / m :: rest).length ≤ 63
    split
    · omega
    · rw [List.length_cons]; omega
/-- one of some -/
theorem pick {n : Int} {t : Tr} {xs : List PyData} (h : TrOk n t) (hn : n ≤ 1000000000) (hx : xs ≠ []) (hl : xs.length < 1000000) : ∃ (x : PyData) (t' : Tr), f__law_pick t [.list xs] = some (x, t') ∧ TrOk (n + 1) t' ∧ x ∈ xs := by
  have hpos : 0 < xs.length := List.length_pos_iff.mpr hx
  obtain ⟨r, t', e, h', hr⟩ := draw (m := xs.length) h hn (by omega) (Nat.lt_of_lt_of_le (Nat.lt_trans hl (by decide : 1000000 < 2 ^ 20)) (Nat.pow_le_pow_right (by decide) (by decide)))
  refine ⟨xs[r], t', ?_, h', List.getElem_mem hr⟩
  have ha : atI xs (r : Int) = some xs[r] := atI_nat (List.getElem?_eq_getElem hr)
  simp [f__law_pick, mFunT, m__law_pick, entryT, slotsOf, mRet, mBin, mV, flat, mCallT, mCons, mNil, mCall, rds, rd, lenD, args, argOf, e, ixD, ha]
theorem pow_small {m : Nat} (h : m ≤ 4611686018427387904) : m < 2 ^ 4000 := Nat.lt_of_le_of_lt h (Nat.lt_of_lt_of_le (by decide : 4611686018427387904 < 2 ^ 63) (Nat.pow_le_pow_right (by decide) (by decide)))
end BA
end Mi
/-! The second family's bag as it is made. -/
namespace Mi
open PySem L2
namespace BA
def cellOf (z : Int) : Int := 2 * (if z < 0 then -z else z) + (if z < 0 then 1 else 0)
def cells (ns : List Int) : List Int := (cutI ns 63).map cellOf
theorem cells_le (ns : List Int) : (cells ns).length ≤ 63 := by
  unfold cells
  rw [List.length_map]
  exact cutI_le ns 63
theorem le63 {n : Nat} (h : n ≤ 63) : n ≤ sizeLine := Nat.le_trans h (by decide)
def mCell : ME Unit := mBin addD (mBin mulD (mC (.int 2)) (mCall absD (mCons (mV 3) mNil))) (mCall intD (mCons (mBin ltD (mV 3) (mC (.int 0))) mNil))
theorem cell_ok {z : Int} (hb : Builtin.Int.intBits z ≤ 1048576) {a b c : Option Val} : mCell [a, b, c, some (.fro (.int z))] () = some (.fro (.int (cellOf z)), ()) := by
  have b2 : Builtin.Int.intBits 2 ≤ 2 := bits_le (by decide)
  have em : mulI 2 (if z < 0 then -z else z) = some (.int (2 * (if z < 0 then -z else z))) := by
    unfold mulI
    rw [bits_abs, if_pos (by omega)]
  simp [mCell, mBin, mC, mCall, mCons, mNil, mV, rds, rd, absD, mulD, em, ltD, intD, addD, cellOf]
theorem tray1 (ns : List Int) (hb : ∀ z ∈ ns, Builtin.Int.intBits z ≤ 1048576) : mLc (T := Unit) (mItems (mKeep (mScrCut ns 63 (mV 0)))) (gN 3) mYes mCell [3] [some (.tray 0), none, none, none] () = some (.list (intL (cells ns)), ()) := by
  rw [mLc_map (ds := intL (cutI ns 63)) (t1 := ()) (fun d => match d with | .int z => .int (cellOf z) | d => d) rfl (by rw [intL_len]; exact le63 (cutI_le ns 63))]
  · rw [intL_map (k := cellOf) fun z => rfl]
    rfl
  · intro d hd
    obtain ⟨z, hz, rfl⟩ := intL_mem hd
    exact ⟨_, rfl, cell_ok (hb z (cutI_mem hz))⟩
def mStir : MS Unit := mSet 2 (mRv (mBin modD (mCall intD (mCons (mBin addD (mBin addD (mBin mulD (mV 2) (mC (.int 69621))) (mV 3)) (mC (.int 9))) mNil)) (mC (.int 4294967291))))
theorem stir_ok {a b : Option Val} {s z : Int} (h0 : 0 ≤ s) (h1 : s < 4294967291) : mStir [a, b, some (.fro (.int s)), some (.fro (.int z))] () = some (.nx [a, b, some (.fro (.int ((s * 69621 + z + 9) % 4294967291))), some (.fro (.int z))], ()) := by
  have em : mulD (.int s) (.int 69621) = some (.int (s * 69621)) := mulI_ok (a := 40) (b := 40) (small_nat h0 (by omega)) (by decide) (by decide)
  exact ev_set (ev_rv (ev_bin (ev_call (ev_cons (ev_bin (ev_bin (ev_bin (r1 := .fro (.int s)) rfl rfl rfl rfl em) (r2 := .fro (.int z)) rfl rfl rfl (z := .int (s * 69621 + z)) rfl) rfl rfl rfl (z := .int (s * 69621 + z + 9)) rfl) ev_nil) rfl (z := .int (s * 69621 + z + 9)) rfl) rfl rfl rfl (mod_ok (by decide))))
theorem tray2 (cs : List Int) (s0 : Int) (h0 : 0 ≤ s0) (h1 : s0 < 4294967291) : ∃ (s : Int) (x : Option Val), 0 ≤ s ∧ s < 4294967291 ∧ mFor (T := Unit) (mItems (mV 1)) (gN 3) mStir [some (.tray 0), some (.fro (.list (intL cs))), some (.fro (.int s0)), none] () = some (.nx [some (.tray 0), some (.fro (.list (intL cs))), some (.fro (.int s)), x], ()) := by
  obtain ⟨ρ', t', e, s, x, h0, h1, rfl⟩ := mFor_ind (T := Unit) (its := mItems (mV 1)) (g := gN 3) (body := mStir)
    (ρ := [some (.tray 0), some (.fro (.list (intL cs))), some (.fro (.int s0)), none]) (t := ()) (t1 := ()) (ds := intL cs) (fun _ ρ _ => ∃ (s : Int) (x : Option Val), 0 ≤ s ∧ s < 4294967291 ∧ ρ = [some (.tray 0), some (.fro (.list (intL cs))), some (.fro (.int s)), x]) rfl ⟨_, none, h0, h1, rfl⟩ (by
      rintro j d ρ t hj ⟨s, x, h0, h1, rfl⟩
      obtain ⟨z, hz, rfl⟩ := intL_mem (List.mem_of_getElem? hj)
      exact ⟨_, _, (), rfl, stir_ok h0 h1, _, some (.fro (.int z)), Int.emod_nonneg _ (by omega), Int.emod_lt_of_pos _ (by decide), rfl⟩)
  exact ⟨s, x, h0, h1, e⟩
def isFar (z : Int) : Bool := decide (1000000000000000 < z)
theorem tray3 (cs : List Int) (hl : cs.length ≤ 63) {a c d : Option Val} : mLc (T := Unit) (mItems (mV 1)) (gN 3) (mTest (mBin gtD (mV 3) (mBin powD (mC (.int 10)) (mC (.int 15))))) (mV 3) [3] [a, some (.fro (.list (intL cs))), c, d] () = some (.list (intL (cs.filter isFar)), ()) := by
  rw [mLc_filt (ds := intL cs) (t1 := ()) (fun d => match d with | .int z => isFar z | _ => false) id rfl (by rw [intL_len]; exact le63 hl)]
  · rw [List.map_id, intL_filter (k := isFar) fun z => rfl]
  · intro d hd
    obtain ⟨z, hz, rfl⟩ := intL_mem hd
    refine ⟨_, rfl, ?_, fun _ => rfl⟩
    simp [wipeR, mTest, mBin, mV, mC, rd, powD, gtD, isFar]
theorem bag (ns : List Int) (hl : ns.length ≤ 63) (hb : ∀ z ∈ ns, Builtin.Int.intBits z ≤ 1048576) : ∃ t0, f__law_bag ns = some (trD "far" t0) ∧ TrOk 0 t0 := by
  have em : mulI 13 (ns.length : Int) = some (.int (13 * (ns.length : Int))) := mulI_ok (a := 10) (b := 10) (by decide) (by rw [Int.natAbs_natCast]; omega) (by decide)
  have step1 : mPar (T := Unit) 1 2 (mConsV (mRv (mKeep (mLc (mItems (mKeep (mScrCut ns 63 (mV 0)))) (gN 3) mYes mCell [3]))) (mConsV (mRv (mBin addD (mC (.int 15029)) (mBin mulD (mC (.int 13)) (mScrLen ns (mV 0))))) mNilV))
      [some (.tray 0), none, none, none] () = some (.nx [some (.tray 0), some (.fro (.list (intL (cells ns)))), some (.fro (.int (15029 + 13 * (ns.length : Int)))), none], ()) := by
    simp [mPar, mConsV, mRv, mKeep, tray1 ns hb, mBin, mC, mScrLen, mV, rd, mulD, em, addD, mNilV]
  obtain ⟨s, x, h0, h1, step2⟩ := tray2 (cells ns) (15029 + 13 * (ns.length : Int)) (by omega) (by omega)
  refine ⟨⟨(cells ns).filter isFar, esOf s 0⟩, ?_, ⟨s, 0, rfl, h0, h1, Int.le_refl 0, Int.le_refl 0, Nat.le_trans (List.length_filter_le _ _) (cells_le ns)⟩⟩
  have e3 := tray3 (cells ns) (cells_le ns) (a := some (.tray 0)) (c := some (.fro (.int s))) (d := x)
  have nd : (([.inr "far", .inr "stirred", .inr "count"] : List Key).Nodup ∧ ([.inr "far", .inr "stirred", .inr "count"] : List Key).length ≤ 15) := by decide
  have step3 : mRet (T := Unit) (mKeep (mDict [.inr "far", .inr "stirred", .inr "count"] (mCons (mKeep (mLc (mItems (mV 1)) (gN 3) (mTest (mBin gtD (mV 3) (mBin powD (mC (.int 10)) (mC (.int 15))))) (mV 3) [3])) (mCons (mV 2) (mCons (mC (.int 0)) mNil)))))
      [some (.tray 0), some (.fro (.list (intL (cells ns)))), some (.fro (.int s)), x] () = some (.rt (trD "far" ⟨(cells ns).filter isFar, esOf s 0⟩), ()) := by
    exact ev_ret (ev_keep ((ev_dict (ds := [.list (intL ((cells ns).filter isFar)), .int s, .int 0]) (ev_cons (ev_keep e3) (ev_cons (r := .fro (.int s)) rfl (ev_cons (r := .fro (.int 0)) rfl ev_nil))) rfl ⟨rfl, nd⟩).trans rfl))
  unfold f__law_bag mFunS m__law_bag
  have e0 : (some (.tray 0) :: List.replicate (4 - 1) none : Env) = [some (.tray 0), none, none, none] := rfl
  rw [e0]
  have all : mSeq (T := Unit) (mPar 1 2 (mConsV (mRv (mKeep (mLc (mItems (mKeep (mScrCut ns 63 (mV 0)))) (gN 3) mYes mCell [3]))) (mConsV (mRv (mBin addD (mC (.int 15029)) (mBin mulD (mC (.int 13)) (mScrLen ns (mV 0))))) mNilV))) (mSeq (mFor (mItems (mV 1)) (gN 3) mStir)
    (mRet (mKeep (mDict [.inr "far", .inr "stirred", .inr "count"] (mCons (mKeep (mLc (mItems (mV 1)) (gN 3) (mTest (mBin gtD (mV 3) (mBin powD (mC (.int 10)) (mC (.int 15))))) (mV 3) [3])) (mCons (mV 2) (mCons (mC (.int 0)) mNil))))))) [some (.tray 0), none, none, none] () = some (.rt (trD "far" ⟨(cells ns).filter isFar, esOf s 0⟩), ()) := by
    rw [seq_nx step1, seq_nx step2, step3]
  unfold mCell mStir at all
  rw [all]
end BA
end Mi
namespace Mi.RA
open PySem L2

def m__of_two : MS Unit :=
  (mSeq (mIfS (mTest (mBin eqD (mV 0) (mC (.str "and")))) (mRet (mBin andD (mV 1) (mV 2))) mSkip)
  (mSeq (mIfS (mTest (mBin eqD (mV 0) (mC (.str "or")))) (mRet (mBin orD (mV 1) (mV 2))) mSkip)
  (mSeq (mIfS (mTest (mBin eqD (mV 0) (mC (.str "xor")))) (mRet (mBin xorD (mV 1) (mV 2))) mSkip)
  (mSeq (mIfS (mTest (mBin eqD (mV 0) (mC (.str "plus")))) (mRet (mBin addD (mV 1) (mV 2))) mSkip)
  (mRet (mBin subD (mV 1) (mV 2)))))))
def f__of_two : List PyData → Option PyData := mFun 3 [true, true, true] m__of_two

end Mi.RA
namespace Mi
open PySem L2
section
variable {a b : Int} {x y : Str} {p : Bool} {xs ys : List PyData} {d : PyData}
theorem o_add : addD (.int a) (.int b) = some (.int (a + b)) := rfl
theorem o_addI : addI (.int a) (.int b) = some (.int (a + b)) := rfl
theorem o_sub : subD (.int a) (.int b) = some (.int (a - b)) := rfl
theorem o_lt : ltD (.int a) (.int b) = some (.bool (decide (a < b))) := rfl
theorem o_le : leD (.int a) (.int b) = some (.bool (decide (a ≤ b))) := rfl
theorem o_gt : gtD (.int a) (.int b) = some (.bool (decide (b < a))) := rfl
theorem o_ge : geD (.int a) (.int b) = some (.bool (decide (b ≤ a))) := rfl
theorem o_eqI : eqD (.int a) (.int b) = some (.bool (a == b)) := rfl
theorem o_neI : neD (.int a) (.int b) = some (.bool (!(a == b))) := rfl
theorem o_eqS : eqD (.str x) (.str y) = some (.bool (x == y)) := rfl
theorem o_neS : neD (.str x) (.str y) = some (.bool (!(x == y))) := rfl
theorem o_neg : negD (.int a) = some (.int (-a)) := rfl
theorem o_inv : invD (.int a) = some (.int (-a - 1)) := by
  show some (PyData.int (Builtin.bitNot a)) = _
  rw [show Builtin.bitNot a = -a - 1 from by unfold Builtin.bitNot; omega]
theorem o_and : andD (.int a) (.int b) = some (.int (Builtin.bitAnd a b)) := rfl
theorem o_or : orD (.int a) (.int b) = some (.int (Builtin.bitOr a b)) := rfl
theorem o_xor : xorD (.int a) (.int b) = some (.int (Builtin.bitXor a b)) := rfl
theorem o_int : intD [.int a] = some (.int a) := rfl
theorem o_intB : intD [.bool p] = some (.int (if p then 1 else 0)) := rfl
theorem o_abs : absD [.int a] = some (.int (if a < 0 then -a else a)) := rfl
theorem o_tupL : tupleD [.list xs] = some (.tuple xs) := rfl
theorem o_tupT : tupleD [.tuple xs] = some (.tuple xs) := rfl
theorem o_lenL : lenD [.list xs] = some (.int (xs.length : Nat)) := rfl
theorem o_lenT : lenD [.tuple xs] = some (.int (xs.length : Nat)) := rfl
theorem o_isN : isND d .none = some (.bool (isN d)) := rfl
theorem o_isNotN : isNotND d .none = some (.bool (!isN d)) := rfl
theorem o_ixA {x y : PyData} (h : ixD x y = some d) : ixD x y = some d := h
theorem o_ixL (h : atI xs a = some d) : ixD (.list xs) (.int a) = some d := h
theorem o_ixT (h : atI xs a = some d) : ixD (.tuple xs) (.int a) = some d := h
end
theorem o_inA {x y : PyData} {d : PyData} (h : inD x y = some d) : inD x y = some d := h
theorem o_notInA {x y : PyData} {d : PyData} (h : notInD x y = some d) : notInD x y = some d := h
theorem o_modA {x y : PyData} {d : PyData} (h : modD x y = some d) : modD x y = some d := h
theorem o_fdivA {x y : PyData} {d : PyData} (h : fdivD x y = some d) : fdivD x y = some d := h
theorem o_fdiv {i j : Int} (h : 0 < j) (h2 : j.natAbs.log2 < 9000) : fdivD (.int i) (.int j) = some (.int (i / j)) := if_pos ⟨h, h2⟩
theorem o_addL {xs ys : List PyData} (h : xs.length + ys.length ≤ sizeLine) : addD (.list xs) (.list ys) = some (.list (xs ++ ys)) := if_pos h
theorem o_addT {xs ys : List PyData} (h : xs.length + ys.length ≤ sizeLine) : addD (.tuple xs) (.tuple ys) = some (.tuple (xs ++ ys)) := if_pos h
theorem o_dixS {es : List (PyData × PyData)} {k : Str} {d : PyData} (h : dgetK es (.inr k) = some d) : ixD (.dict es) (.str k) = some d := h
theorem dict_ok {a : Nat} {ks : List Key} {P : Prop} (h : a = ks.length ∧ ks.Nodup ∧ ks.length ≤ 15) (q : P) : (a = ks.length ∧ ks.Nodup ∧ ks.length ≤ 15) ∧ P := ⟨h, q⟩
theorem lt_ok {n : Nat} {P : Prop} (h : n < sizeLine) (q : P) : n < sizeLine ∧ P := ⟨h, q⟩
theorem pk_ok {b : Bool} {P : Prop} (h : b = true) (q : P) : b = true ∧ P := ⟨h, q⟩
theorem len_ok {n : Nat} {P : Prop} (h : n ≤ sizeLine) (q : P) : n ≤ sizeLine ∧ P := ⟨h, q⟩
theorem par_ok {n m : Nat} {P : Prop} (h : n ≤ sizeLine ∧ n = m) (q : P) : (n ≤ sizeLine ∧ n = m) ∧ P := ⟨h, q⟩
namespace RS
local macro_rules | `(tactic| walk_at "op") => `(tactic| with_reducible first
  | exact o_add | exact o_addI | exact o_sub | exact o_lt | exact o_le | exact o_gt | exact o_ge | exact o_eqI | exact o_neI | exact o_eqS | exact o_neS | exact o_neg | exact o_inv | exact o_and | exact o_or | exact o_xor
  | exact o_int | exact o_intB | exact o_abs | exact o_tupL | exact o_tupT | exact o_lenL | exact o_lenT | exact o_isN | exact o_isNotN)
local macro_rules | `(tactic| walk_at "ix") => `(tactic| ((with_reducible apply o_ixA); (first | apply o_ixL | apply o_ixT | apply o_dixS); focus rfl))
local macro_rules | `(tactic| walk_at "op2") => `(tactic| first
  | ((with_reducible apply o_inA); focus rfl)
  | ((with_reducible apply o_notInA); focus rfl)
  | (with_reducible (first | refine o_addL ?_ | refine o_addT ?_); simp only [List.length_cons, List.length_nil]; decide)
  | ((with_reducible apply o_modA); focus (exact mod_ok (by decide)))
  | ((with_reducible apply o_fdivA); focus (exact o_fdiv (by decide) (by decide))))
local macro_rules | `(tactic| walk_at "call") => `(tactic| fail)
local macro_rules | `(tactic| walk_at "s") => `(tactic| first
  | ((with_reducible apply s_set_env); focus (dsimp only [List.set] <;> rfl))
  | ((with_reducible apply f_callPK); (focus rfl); (focus rfl))
  | with_reducible first
    | refine s_seq ?_ | refine d_f (f_bin ?_) | refine d_f (f_c ?_) | refine s_set ?_ | refine v_rv ?_ | refine s_if ?_ | refine b_test ?_ | refine f_bin ?_ | refine f_c ?_ | refine s_ret ?_ | refine s_skip ?_
    | refine r_cons ?_ | refine r_nil ?_ | refine a_consT ?_ | refine a_nil ?_ | refine k_cons ?_ | refine k_nil ?_ | refine a_consF ?_
    | refine f_call ?_ | refine f_callP ?_ | refine f_keep ?_ | refine f_tup ?_ | refine f_if ?_ | refine f_andV ?_ | refine f_orV ?_ | refine f_notV ?_ | refine f_isi ?_ | refine f_sl ?_ | refine f_un ?_ | refine f_chain ?_
    | refine b_and ?_ | refine b_or ?_ | refine b_not ?_ | refine b_yes ?_
    | refine s_asg ?_ | refine s_app ?_ | refine s_par ?_ | refine s_pars ?_ | refine s_drop ?_ | refine s_retN ?_ | refine s_break ?_ | refine s_cont ?_ | refine s_end ?_ | refine s_setP ?_ | refine s_dropP ?_ | refine s_appP ?_ | refine p_at ?_ | refine p_end ?_ | refine s_par3 ?_ | refine ex_three ?_ | refine i_zip ?_ | refine zz_L ?_ | refine zz_T ?_ | refine l_revL ?_ | refine ex_lst ?_
    | refine l_lst ?_ | refine l_dict ?_ | refine l_listL ?_ | refine o_no ?_ | refine o_part ?_ | refine i_enum ?_ | refine i_range1 ?_ | refine v_new ?_ | refine vs_nil ?_ | refine vs_cons ?_
  | ((with_reducible apply d_v); focus rfl)
  | ((with_reducible apply f_v); focus rfl)
  | ((with_reducible apply s_aug); focus rfl)
  | ((with_reducible apply f_callT); focus rfl)
  | ((with_reducible apply w_b); (focus rfl))
  | ((with_reducible apply i_itemsB); (focus rfl); (focus rfl))
  | with_reducible first | refine d_f ?_ | refine w_f ?_ | refine i_items ?_
  | ((with_reducible refine if_yes ?_ ?_); focus rfl)
  | ((with_reducible refine if_no ?_ ?_); focus rfl)
  | ((with_reducible apply op_ok); focus (first | walk_at "op" | walk_at "ix" | walk_at "op2"))
  | ((with_reducible refine len_ok ?_ ?_); focus (simp only [List.length_cons, List.length_nil]; decide))
  | ((with_reducible refine pk_ok ?_ ?_); focus rfl)
  | ((with_reducible refine lt_ok ?_ ?_); focus (simp only [List.length_append, List.length_cons, List.length_nil]; decide))
  | ((with_reducible refine dict_ok ?_ ?_); focus (exact ⟨rfl, by decide, by decide⟩))
  | ((with_reducible refine par_ok ?_ ?_); focus (refine ⟨?_, rfl⟩; simp only [List.length_cons, List.length_nil]; decide))
  | walk_at "call"
  | with_reducible first | refine ex_bool ?_ | refine ex_int ?_ | refine ex_itL ?_ | refine ex_itT ?_ | refine ex_rng ?_ | refine ex_two ?_ | refine ex_lstL ?_ | refine ex_lstT ?_
  | ((with_reducible apply ex_env); focus rfl)
  | ((with_reducible apply ex_own); focus rfl))
inductive U1 | not | twice | minus | pfx
inductive U2 | and | or | xor | plus | less
inductive Ins | zero | ones | un (o : U1) (a : Nat) | bin (o : U2) (a b : Nat) | mask (bits : List Nat)
def U1.s : U1 → Str
  | .not => "not" | .twice => "twice" | .minus => "minus" | .pfx => "prefix"
def U2.s : U2 → Str
  | .and => "and" | .or => "or" | .xor => "xor" | .plus => "plus" | .less => "less"
def insD : Ins → PyData
  | .zero => .tuple [.str "zero"]
  | .ones => .tuple [.str "ones"]
  | .un o a => .tuple [.str o.s, .int a]
  | .bin o a b => .tuple [.str o.s, .int a, .int b]
  | .mask bits => .tuple [.str "mask", .tuple (natsD bits)]
def two (o : U2) (a b : Int) : Int := match o with
  | .and => Builtin.bitAnd a b | .or => Builtin.bitOr a b | .xor => Builtin.bitXor a b | .plus => a + b | .less => a - b
theorem of_two (o : U2) (a b : Int) : RA.f__of_two [.str o.s, .int a, .int b] = some (.int (two o a b)) := by
  refine fun_ok ?_
  refine s_env (ρ' := [some (.bor (.str o.s)), some (.bor (.int a)), some (.bor (.int b))]) rfl ?_
  unfold RA.m__of_two
  cases o <;> (repeat (first | walk_at "s")) <;> rfl
/-! ### bits -/
/-- the xor of r bits, the bit i and those below it -/
def pre (a : Nat) (i : Nat) : Nat → Bool
  | 0 => false
  | r + 1 => pre a i r ^^ (decide (r ≤ i) && a.testBit (i - r))
def ofBits (f : Nat → Bool) : Nat → Nat
  | 0 => 0
  | w + 1 => ofBits f w + (f w).toNat * 2 ^ w
def preW (w a : Nat) : Nat := ofBits (fun i => pre a i (i + 1)) w
end RS
end Mi
/-! What programs tell at a width. -/
namespace Mi
open PySem L2
theorem natsD_len (xs : List Nat) : (natsD xs).length = xs.length := List.length_map _
theorem natsD_at {xs : List Nat} {i : Nat} {d : PyData} (h : (natsD xs)[i]? = some d) : ∃ n, xs[i]? = some n ∧ d = .int (n : Int) := by
  unfold natsD at h
  rw [List.getElem?_map] at h
  obtain ⟨n, hn, rfl⟩ := Option.map_eq_some_iff.mp h
  exact ⟨n, hn, rfl⟩
theorem natsD_get {xs : List Nat} {i n : Nat} (h : xs[i]? = some n) : (natsD xs)[i]? = some (.int (n : Int)) := by
  unfold natsD
  rw [List.getElem?_map, h]
  rfl
theorem natsD_snoc (xs : List Nat) (n : Nat) : natsD xs ++ [.int (n : Int)] = natsD (xs ++ [n]) := by
  unfold natsD
  rw [List.map_append]
  rfl
theorem lt_at {α : Type} {xs : List α} {i : Nat} {x : α} (h : xs[i]? = some x) : i < xs.length := (List.getElem?_eq_some_iff.mp h).1
theorem take_at {α : Type} {xs : List α} {i : Nat} {x : α} (h : xs[i]? = some x) : xs.take (i + 1) = xs.take i ++ [x] := by
  rw [List.take_succ, h]
  rfl
theorem range_at {n i k : Nat} (h : (List.range n)[i]? = some k) : k = i ∧ i < n := by
  have hl := lt_at h
  rw [List.length_range] at hl
  rw [List.getElem?_range hl] at h
  cases h
  exact ⟨rfl, hl⟩
namespace RS
local macro_rules | `(tactic| walk_at "op") => `(tactic| with_reducible first
  | exact o_add | exact o_addI | exact o_sub | exact o_lt | exact o_le | exact o_gt | exact o_ge | exact o_eqI | exact o_neI | exact o_eqS | exact o_neS | exact o_neg | exact o_inv | exact o_and | exact o_or | exact o_xor
  | exact o_int | exact o_intB | exact o_abs | exact o_tupL | exact o_tupT | exact o_lenL | exact o_lenT | exact o_isN | exact o_isNotN)
local macro_rules | `(tactic| walk_at "ix") => `(tactic| ((with_reducible apply o_ixA); (first | apply o_ixL | apply o_ixT | apply o_dixS); focus rfl))
local macro_rules | `(tactic| walk_at "op2") => `(tactic| first
  | ((with_reducible apply o_inA); focus rfl)
  | ((with_reducible apply o_notInA); focus rfl)
  | (with_reducible (first | refine o_addL ?_ | refine o_addT ?_); simp only [List.length_cons, List.length_nil]; decide)
  | ((with_reducible apply o_modA); focus (exact mod_ok (by decide)))
  | ((with_reducible apply o_fdivA); focus (exact o_fdiv (by decide) (by decide))))
local macro_rules | `(tactic| walk_at "call") => `(tactic| fail)
local macro_rules | `(tactic| walk_at "s") => `(tactic| first
  | ((with_reducible apply s_set_env); focus (dsimp only [List.set] <;> rfl))
  | ((with_reducible apply f_callPK); (focus rfl); (focus rfl))
  | with_reducible first
    | refine s_seq ?_ | refine d_f (f_bin ?_) | refine d_f (f_c ?_) | refine s_set ?_ | refine v_rv ?_ | refine s_if ?_ | refine b_test ?_ | refine f_bin ?_ | refine f_c ?_ | refine s_ret ?_ | refine s_skip ?_
    | refine r_cons ?_ | refine r_nil ?_ | refine a_consT ?_ | refine a_nil ?_ | refine k_cons ?_ | refine k_nil ?_ | refine a_consF ?_
    | refine f_call ?_ | refine f_callP ?_ | refine f_keep ?_ | refine f_tup ?_ | refine f_if ?_ | refine f_andV ?_ | refine f_orV ?_ | refine f_notV ?_ | refine f_isi ?_ | refine f_sl ?_ | refine f_un ?_ | refine f_chain ?_
    | refine b_and ?_ | refine b_or ?_ | refine b_not ?_ | refine b_yes ?_
    | refine s_asg ?_ | refine s_app ?_ | refine s_par ?_ | refine s_pars ?_ | refine s_drop ?_ | refine s_retN ?_ | refine s_break ?_ | refine s_cont ?_ | refine s_end ?_ | refine s_setP ?_ | refine s_dropP ?_ | refine s_appP ?_ | refine p_at ?_ | refine p_end ?_ | refine s_par3 ?_ | refine ex_three ?_ | refine i_zip ?_ | refine zz_L ?_ | refine zz_T ?_ | refine l_revL ?_ | refine ex_lst ?_
    | refine l_lst ?_ | refine l_dict ?_ | refine l_listL ?_ | refine o_no ?_ | refine o_part ?_ | refine i_enum ?_ | refine i_range1 ?_ | refine v_new ?_ | refine vs_nil ?_ | refine vs_cons ?_
  | ((with_reducible apply d_v); focus rfl)
  | ((with_reducible apply f_v); focus rfl)
  | ((with_reducible apply s_aug); focus rfl)
  | ((with_reducible apply f_callT); focus rfl)
  | ((with_reducible apply w_b); (focus rfl))
  | ((with_reducible apply i_itemsB); (focus rfl); (focus rfl))
  | with_reducible first | refine d_f ?_ | refine w_f ?_ | refine i_items ?_
  | ((with_reducible refine if_yes ?_ ?_); focus rfl)
  | ((with_reducible refine if_no ?_ ?_); focus rfl)
  | ((with_reducible apply op_ok); focus (first | walk_at "op" | walk_at "ix" | walk_at "op2"))
  | ((with_reducible refine len_ok ?_ ?_); focus (simp only [List.length_cons, List.length_nil]; decide))
  | ((with_reducible refine pk_ok ?_ ?_); focus rfl)
  | ((with_reducible refine lt_ok ?_ ?_); focus (simp only [List.length_append, List.length_cons, List.length_nil]; decide))
  | ((with_reducible refine dict_ok ?_ ?_); focus (exact ⟨rfl, by decide, by decide⟩))
  | ((with_reducible refine par_ok ?_ ?_); focus (refine ⟨?_, rfl⟩; simp only [List.length_cons, List.length_nil]; decide))
  | walk_at "call"
  | with_reducible first | refine ex_bool ?_ | refine ex_int ?_ | refine ex_itL ?_ | refine ex_itT ?_ | refine ex_rng ?_ | refine ex_two ?_ | refine ex_lstL ?_ | refine ex_lstT ?_
  | ((with_reducible apply ex_env); focus rfl)
  | ((with_reducible apply ex_own); focus rfl))
def maskW (w : Nat) (bits : List Nat) : Nat := ofBits (fun i => bits.getD (i % bits.length) 0 == 1) w
/-- what a row tells, from what is known -/
def val (w : Nat) (ks : List Nat) : Ins → Nat
  | .zero => 0
  | .ones => 2 ^ w - 1
  | .un .not a => 2 ^ w - 1 - ks.getD a 0
  | .un .twice a => 2 * ks.getD a 0 % 2 ^ w
  | .un .minus a => (2 ^ w - ks.getD a 0) % 2 ^ w
  | .un .pfx a => preW w (ks.getD a 0)
  | .bin .and a b => ks.getD a 0 &&& ks.getD b 0
  | .bin .or a b => ks.getD a 0 ||| ks.getD b 0
  | .bin .xor a b => ks.getD a 0 ^^^ ks.getD b 0
  | .bin .plus a b => (ks.getD a 0 + ks.getD b 0) % 2 ^ w
  | .bin .less a b => (2 ^ w + ks.getD a 0 - ks.getD b 0) % 2 ^ w
  | .mask bits => maskW w bits
/-- a row that may stand where so many words are known -/
def Ins.ok (n : Nat) : Ins → Prop
  | .zero => True
  | .ones => True
  | .un _ a => a < n
  | .bin _ a b => a < n ∧ b < n
  | .mask bits => bits ≠ [] ∧ bits.length ≤ 24 ∧ ∀ b ∈ bits, b ≤ 1
def OkW (w : Nat) (ks : List Nat) : Prop := ∀ k ∈ ks, k < 2 ^ w
theorem OkW.at {w : Nat} {ks : List Nat} (h : OkW w ks) (i : Nat) : ks.getD i 0 < 2 ^ w := by
  rw [List.getD_eq_getElem?_getD]
  cases e : ks[i]? with
  | none => exact Nat.two_pow_pos w
  | some x => exact h x (List.mem_of_getElem? e)
end RS
end Mi
/-! What programs tell at a width: all rows. -/
namespace Mi
open PySem L2
namespace RS
local macro_rules | `(tactic| walk_at "op") => `(tactic| with_reducible first
  | exact o_add | exact o_addI | exact o_sub | exact o_lt | exact o_le | exact o_gt | exact o_ge | exact o_eqI | exact o_neI | exact o_eqS | exact o_neS | exact o_neg | exact o_inv | exact o_and | exact o_or | exact o_xor
  | exact o_int | exact o_intB | exact o_abs | exact o_tupL | exact o_tupT | exact o_lenL | exact o_lenT | exact o_isN | exact o_isNotN)
local macro_rules | `(tactic| walk_at "ix") => `(tactic| ((with_reducible apply o_ixA); (first | apply o_ixL | apply o_ixT | apply o_dixS); focus rfl))
local macro_rules | `(tactic| walk_at "op2") => `(tactic| first
  | ((with_reducible apply o_inA); focus rfl)
  | ((with_reducible apply o_notInA); focus rfl)
  | (with_reducible (first | refine o_addL ?_ | refine o_addT ?_); simp only [List.length_cons, List.length_nil]; decide)
  | ((with_reducible apply o_modA); focus (exact mod_ok (by decide)))
  | ((with_reducible apply o_fdivA); focus (exact o_fdiv (by decide) (by decide))))
local macro_rules | `(tactic| walk_at "call") => `(tactic| fail)
local macro_rules | `(tactic| walk_at "s") => `(tactic| first
  | ((with_reducible apply s_set_env); focus (dsimp only [List.set] <;> rfl))
  | ((with_reducible apply f_callPK); (focus rfl); (focus rfl))
  | with_reducible first
    | refine s_seq ?_ | refine d_f (f_bin ?_) | refine d_f (f_c ?_) | refine s_set ?_ | refine v_rv ?_ | refine s_if ?_ | refine b_test ?_ | refine f_bin ?_ | refine f_c ?_ | refine s_ret ?_ | refine s_skip ?_
    | refine r_cons ?_ | refine r_nil ?_ | refine a_consT ?_ | refine a_nil ?_ | refine k_cons ?_ | refine k_nil ?_ | refine a_consF ?_
    | refine f_call ?_ | refine f_callP ?_ | refine f_keep ?_ | refine f_tup ?_ | refine f_if ?_ | refine f_andV ?_ | refine f_orV ?_ | refine f_notV ?_ | refine f_isi ?_ | refine f_sl ?_ | refine f_un ?_ | refine f_chain ?_
    | refine b_and ?_ | refine b_or ?_ | refine b_not ?_ | refine b_yes ?_
    | refine s_asg ?_ | refine s_app ?_ | refine s_par ?_ | refine s_pars ?_ | refine s_drop ?_ | refine s_retN ?_ | refine s_break ?_ | refine s_cont ?_ | refine s_end ?_ | refine s_setP ?_ | refine s_dropP ?_ | refine s_appP ?_ | refine p_at ?_ | refine p_end ?_ | refine s_par3 ?_ | refine ex_three ?_ | refine i_zip ?_ | refine zz_L ?_ | refine zz_T ?_ | refine l_revL ?_ | refine ex_lst ?_
    | refine l_lst ?_ | refine l_dict ?_ | refine l_listL ?_ | refine o_no ?_ | refine o_part ?_ | refine i_enum ?_ | refine i_range1 ?_ | refine v_new ?_ | refine vs_nil ?_ | refine vs_cons ?_
  | ((with_reducible apply d_v); focus rfl)
  | ((with_reducible apply f_v); focus rfl)
  | ((with_reducible apply s_aug); focus rfl)
  | ((with_reducible apply f_callT); focus rfl)
  | ((with_reducible apply w_b); (focus rfl))
  | ((with_reducible apply i_itemsB); (focus rfl); (focus rfl))
  | with_reducible first | refine d_f ?_ | refine w_f ?_ | refine i_items ?_
  | ((with_reducible refine if_yes ?_ ?_); focus rfl)
  | ((with_reducible refine if_no ?_ ?_); focus rfl)
  | ((with_reducible apply op_ok); focus (first | walk_at "op" | walk_at "ix" | walk_at "op2"))
  | ((with_reducible refine len_ok ?_ ?_); focus (simp only [List.length_cons, List.length_nil]; decide))
  | ((with_reducible refine pk_ok ?_ ?_); focus rfl)
  | ((with_reducible refine lt_ok ?_ ?_); focus (simp only [List.length_append, List.length_cons, List.length_nil]; decide))
  | ((with_reducible refine dict_ok ?_ ?_); focus (exact ⟨rfl, by decide, by decide⟩))
  | ((with_reducible refine par_ok ?_ ?_); focus (refine ⟨?_, rfl⟩; simp only [List.length_cons, List.length_nil]; decide))
  | walk_at "call"
  | with_reducible first | refine ex_bool ?_ | refine ex_int ?_ | refine ex_itL ?_ | refine ex_itT ?_ | refine ex_rng ?_ | refine ex_two ?_ | refine ex_lstL ?_ | refine ex_lstT ?_
  | ((with_reducible apply ex_env); focus rfl)
  | ((with_reducible apply ex_own); focus rfl))
abbrev progD (many : Nat) (rows : List Ins) : PyData := .tuple [.int many, .tuple (rows.map insD)]
structure OkP (many : Nat) (rows : List Ins) : Prop where
  ok : ∀ (j : Nat) (I : Ins), rows[j]? = some I → I.ok (many + j)
  pos : rows ≠ []
  few : rows.length ≤ 6000
end RS
end Mi
namespace Mi.BA
open PySem L2

def m__law_arity : MS Unit :=
  (mSeq (mIfS (mNot (mTest (mIsi "str" (mV 0)))) (mRet (mUn negD (mC (.int 1)))) mSkip)
  (mSeq (mIfS (mTest (mBin inD (mV 0) (mTup (mCons (mC (.str "zero")) (mCons (mC (.str "ones")) mNil))))) (mRet (mC (.int 0))) mSkip)
  (mSeq (mIfS (mTest (mBin inD (mV 0) (mTup (mCons (mC (.str "not")) (mCons (mC (.str "twice")) (mCons (mC (.str "minus")) (mCons (mC (.str "prefix")) (mCons (mC (.str "mask")) mNil)))))))) (mRet (mC (.int 1))) mSkip)
  (mRet (mIf (mTest (mBin inD (mV 0) (mTup (mCons (mC (.str "and")) (mCons (mC (.str "or")) (mCons (mC (.str "xor")) (mCons (mC (.str "plus")) (mCons (mC (.str "less")) mNil)))))))) (mC (.int 2)) (mUn negD (mC (.int 1))))))))
def f__law_arity : List PyData → Option PyData := mFun 1 [true] m__law_arity

def m__law_operand : MS Tr :=
  (mRet (mIf (mTest (mBin eqD (mCallT [true] f__law_draw (mCons (mV 0) (mCons (mC (.int 2)) mNil))) (mC (.int 0)))) (mBin subD (mBin subD (mV 1) (mC (.int 1))) (mCallT [true] f__law_draw (mCons (mV 0) (mCons (mCall minD (mCons (mC (.int 3)) (mCons (mV 1) mNil))) mNil)))) (mCallT [true] f__law_draw (mCons (mV 0) (mCons (mV 1) mNil)))))
def f__law_operand : Tr → List PyData → Option (PyData × Tr) := mFunT 2 [true] m__law_operand

def m__law_row : MS Tr :=
  (mSeq (mIfS (mTest (mBin eqD (mV 1) (mC (.str "mask")))) (mSeq (mSet 3 (mRv (mBin addD (mC (.int 1)) (mCallT [true] f__law_draw (mCons (mV 0) (mCons (mCallT [true] f__law_pick (mCons (mV 0) (mCons (mKeep (mLst (mCons (mC (.int 3)) (mCons (mC (.int 8)) (mCons (mC (.int 24)) mNil))))) mNil))) mNil))))))
  (mRet (mTup (mCons (mV 1) (mCons (mCall tupleD (mCons (mKeep (mLc (mRange1 (mCons (mV 3) mNil)) (gN 5) mYes (mCallT [true] f__law_draw (mCons (mV 0) (mCons (mC (.int 2)) mNil))) [5])) mNil)) mNil))))) mSkip)
  (mRet (mBin addD (mTup (mCons (mV 1) mNil)) (mCall tupleD (mCons (mKeep (mLc (mRange1 (mCons (mCallP [true] f__law_arity (mCons (mV 1) mNil)) mNil)) (gN 4) mYes (mCallT [true] f__law_operand (mCons (mV 0) (mCons (mV 2) mNil))) [4])) mNil)))))
def f__law_row : Tr → List PyData → Option (PyData × Tr) := mFunT 6 [true, true] m__law_row

end Mi.BA
/-! What the second family of laws makes of its bag. -/
namespace Mi
open PySem L2
namespace BA
local macro_rules | `(tactic| walk_at "op") => `(tactic| with_reducible first
  | exact o_add | exact o_addI | exact o_sub | exact o_lt | exact o_le | exact o_gt | exact o_ge | exact o_eqI | exact o_neI | exact o_eqS | exact o_neS | exact o_neg | exact o_inv | exact o_and | exact o_or | exact o_xor
  | exact o_int | exact o_intB | exact o_abs | exact o_tupL | exact o_tupT | exact o_lenL | exact o_lenT | exact o_isN | exact o_isNotN)
local macro_rules | `(tactic| walk_at "ix") => `(tactic| ((with_reducible apply o_ixA); (first | apply o_ixL | apply o_ixT | apply o_dixS); focus rfl))
local macro_rules | `(tactic| walk_at "op2") => `(tactic| first
  | ((with_reducible apply o_inA); focus rfl)
  | ((with_reducible apply o_notInA); focus rfl)
  | (with_reducible (first | refine o_addL ?_ | refine o_addT ?_); simp only [List.length_cons, List.length_nil]; decide)
  | ((with_reducible apply o_modA); focus (exact mod_ok (by decide)))
  | ((with_reducible apply o_fdivA); focus (exact o_fdiv (by decide) (by decide))))
local macro_rules | `(tactic| walk_at "call") => `(tactic| fail)
local macro_rules | `(tactic| walk_at "s") => `(tactic| first
  | ((with_reducible apply s_set_env); focus (dsimp only [List.set] <;> rfl))
  | ((with_reducible apply f_callPK); (focus rfl); (focus rfl))
  | with_reducible first
    | refine s_seq ?_ | refine d_f (f_bin ?_) | refine d_f (f_c ?_) | refine s_set ?_ | refine v_rv ?_ | refine s_if ?_ | refine b_test ?_ | refine f_bin ?_ | refine f_c ?_ | refine s_ret ?_ | refine s_skip ?_
    | refine r_cons ?_ | refine r_nil ?_ | refine a_consT ?_ | refine a_nil ?_ | refine k_cons ?_ | refine k_nil ?_ | refine a_consF ?_
    | refine f_call ?_ | refine f_callP ?_ | refine f_keep ?_ | refine f_tup ?_ | refine f_if ?_ | refine f_andV ?_ | refine f_orV ?_ | refine f_notV ?_ | refine f_isi ?_ | refine f_sl ?_ | refine f_un ?_ | refine f_chain ?_
    | refine b_and ?_ | refine b_or ?_ | refine b_not ?_ | refine b_yes ?_
    | refine s_asg ?_ | refine s_app ?_ | refine s_par ?_ | refine s_pars ?_ | refine s_drop ?_ | refine s_retN ?_ | refine s_break ?_ | refine s_cont ?_ | refine s_end ?_ | refine s_setP ?_ | refine s_dropP ?_ | refine s_appP ?_ | refine p_at ?_ | refine p_end ?_ | refine s_par3 ?_ | refine ex_three ?_ | refine i_zip ?_ | refine zz_L ?_ | refine zz_T ?_ | refine l_revL ?_ | refine ex_lst ?_
    | refine l_lst ?_ | refine l_dict ?_ | refine l_listL ?_ | refine o_no ?_ | refine o_part ?_ | refine i_enum ?_ | refine i_range1 ?_ | refine v_new ?_ | refine vs_nil ?_ | refine vs_cons ?_
  | ((with_reducible apply d_v); focus rfl)
  | ((with_reducible apply f_v); focus rfl)
  | ((with_reducible apply s_aug); focus rfl)
  | ((with_reducible apply f_callT); focus rfl)
  | ((with_reducible apply w_b); (focus rfl))
  | ((with_reducible apply i_itemsB); (focus rfl); (focus rfl))
  | with_reducible first | refine d_f ?_ | refine w_f ?_ | refine i_items ?_
  | ((with_reducible refine if_yes ?_ ?_); focus rfl)
  | ((with_reducible refine if_no ?_ ?_); focus rfl)
  | ((with_reducible apply op_ok); focus (first | walk_at "op" | walk_at "ix" | walk_at "op2"))
  | ((with_reducible refine len_ok ?_ ?_); focus (simp only [List.length_cons, List.length_nil]; decide))
  | ((with_reducible refine pk_ok ?_ ?_); focus rfl)
  | ((with_reducible refine lt_ok ?_ ?_); focus (simp only [List.length_append, List.length_cons, List.length_nil]; decide))
  | ((with_reducible refine dict_ok ?_ ?_); focus (exact ⟨rfl, by decide, by decide⟩))
  | ((with_reducible refine par_ok ?_ ?_); focus (refine ⟨?_, rfl⟩; simp only [List.length_cons, List.length_nil]; decide))
  | walk_at "call"
  | with_reducible first | refine ex_bool ?_ | refine ex_int ?_ | refine ex_itL ?_ | refine ex_itT ?_ | refine ex_rng ?_ | refine ex_two ?_ | refine ex_lstL ?_ | refine ex_lstT ?_
  | ((with_reducible apply ex_env); focus rfl)
  | ((with_reducible apply ex_own); focus rfl))
theorem draw_ex {n : Int} {t : Tr} {m : Nat} {P : PyData → Tr → Prop} (h : TrOk n t) (hn : n ≤ 1000000000) (h0 : 1 ≤ m) (hm : m < 2 ^ 4000) (q : ∀ (r : Nat) (t' : Tr), TrOk (n + 1) t' → r < m → P (.int r) t') : ∃ z t2, f__law_draw t [.int (m : Int)] = some (z, t2) ∧ P z t2 := by
  obtain ⟨r, t', e, h', hr⟩ := draw h hn h0 hm
  exact ⟨_, _, e, q r t' h' hr⟩
theorem draw_exI {n : Int} {t : Tr} {z : Int} (m : Nat) {P : PyData → Tr → Prop} (e : z = (m : Int)) (h : TrOk n t) (hn : n ≤ 1000000000) (h0 : 1 ≤ m) (hm : m ≤ 4611686018427387904) (q : ∀ (r : Nat) (t' : Tr), TrOk (n + 1) t' → r < m → P (.int r) t') : ∃ z' t2, f__law_draw t [.int z] = some (z', t2) ∧ P z' t2 := by
  subst e
  exact draw_ex h hn h0 (pow_small hm) q
theorem pick_ex {n : Int} {t : Tr} {xs : List PyData} {P : PyData → Tr → Prop} (h : TrOk n t) (hn : n ≤ 1000000000) (hx : xs ≠ []) (hl : xs.length < 1000000) (q : ∀ (x : PyData) (t' : Tr), TrOk (n + 1) t' → x ∈ xs → P x t') : ∃ z t2, f__law_pick t [.list xs] = some (z, t2) ∧ P z t2 := by
  obtain ⟨x, t', e, h', hr⟩ := pick h hn hx hl
  exact ⟨_, _, e, q x t' h' hr⟩
/-- the words of instructions -/
inductive Wd | zero | ones | un (o : RS.U1) | bin (o : RS.U2) | mask
def Wd.s : Wd → Str
  | .zero => "zero" | .ones => "ones" | .un o => o.s | .bin o => o.s | .mask => "mask"
def Wd.arity : Wd → Nat
  | .zero => 0 | .ones => 0 | .un _ => 1 | .bin _ => 2 | .mask => 1
theorem arity (wd : Wd) : f__law_arity [.str wd.s] = some (.int wd.arity) := by
  refine fun_ok ?_
  refine s_env (ρ' := [some (.bor (.str wd.s))]) rfl ?_
  unfold m__law_arity
  cases wd with
  | zero => repeat (first | walk_at "s")
            rfl
  | ones => repeat (first | walk_at "s")
            rfl
  | mask => repeat (first | walk_at "s")
            rfl
  | un o => cases o <;> (repeat (first | walk_at "s")) <;> rfl
  | bin o => cases o <;> (repeat (first | walk_at "s")) <;> rfl
theorem operand {n : Int} {t : Tr} {top : Nat} {P : PyData → Tr → Prop} (h : TrOk n t) (hn : n ≤ 900000000) (h0 : 1 ≤ top) (ht : top ≤ 1000000) (q : ∀ (r : Nat) (t' : Tr), TrOk (n + 2) t' → r < top → P (.int r) t') : ∃ z t2, f__law_operand t [.int (top : Int)] = some (z, t2) ∧ P z t2 := by
  refine funT_ok ?_
  refine s_env (ρ' := [some (.tray 0), some (.bor (.int top))]) rfl ?_
  unfold m__law_operand
  repeat (first | walk_at "s")
  refine draw_exI 2 rfl h (by omega) (by omega) (by omega) fun r t1 h1 hr => ?_
  repeat (first | walk_at "s")
  refine if_both (fun hb => ?_) (fun hb => ?_)
  · repeat (first | walk_at "s")
    refine op_ok (z := .int ((min 3 top : Nat) : Int)) ?_ ?_
    · show some (PyData.int (if (top : Int) < 3 then (top : Int) else 3)) = _
      congr 2
      split <;> omega
    repeat (first | walk_at "s")
    refine draw_ex h1 (by omega) (by omega) (pow_small (by omega)) fun r2 t2 h2 hr2 => ?_
    repeat (first | walk_at "s")
    have e : ((top : Int) - 1 - r2) = ((top - 1 - r2 : Nat) : Int) := by omega
    rw [e]
    exact q _ _ (h2.mono (by omega)) (by omega)
  · repeat (first | walk_at "s")
    refine draw_ex h1 (by omega) (by omega) (pow_small (by omega)) fun r2 t2 h2 hr2 => ?_
    exact q _ _ (h2.mono (by omega)) hr2
end BA
end Mi
/-! What the second family of laws makes of its bag: rows, words. -/
namespace Mi
open PySem L2
theorem fits {n : Nat} (h : n ≤ 1000000) : n ≤ sizeLine := Nat.le_trans h (by decide)
theorem fits' {n : Nat} (h : n < 1000000) : n < sizeLine := Nat.lt_of_lt_of_le h (by decide)
namespace BA
local macro_rules | `(tactic| walk_at "op") => `(tactic| with_reducible first
  | exact o_add | exact o_addI | exact o_sub | exact o_lt | exact o_le | exact o_gt | exact o_ge | exact o_eqI | exact o_neI | exact o_eqS | exact o_neS | exact o_neg | exact o_inv | exact o_and | exact o_or | exact o_xor
  | exact o_int | exact o_intB | exact o_abs | exact o_tupL | exact o_tupT | exact o_lenL | exact o_lenT | exact o_isN | exact o_isNotN)
local macro_rules | `(tactic| walk_at "ix") => `(tactic| ((with_reducible apply o_ixA); (first | apply o_ixL | apply o_ixT | apply o_dixS); focus rfl))
local macro_rules | `(tactic| walk_at "op2") => `(tactic| first
  | ((with_reducible apply o_inA); focus rfl)
  | ((with_reducible apply o_notInA); focus rfl)
  | (with_reducible (first | refine o_addL ?_ | refine o_addT ?_); simp only [List.length_cons, List.length_nil]; decide)
  | ((with_reducible apply o_modA); focus (exact mod_ok (by decide)))
  | ((with_reducible apply o_fdivA); focus (exact o_fdiv (by decide) (by decide))))
local macro_rules | `(tactic| walk_at "call") => `(tactic| fail)
local macro_rules | `(tactic| walk_at "s") => `(tactic| first
  | ((with_reducible apply s_set_env); focus (dsimp only [List.set] <;> rfl))
  | ((with_reducible apply f_callPK); (focus rfl); (focus rfl))
  | with_reducible first
    | refine s_seq ?_ | refine d_f (f_bin ?_) | refine d_f (f_c ?_) | refine s_set ?_ | refine v_rv ?_ | refine s_if ?_ | refine b_test ?_ | refine f_bin ?_ | refine f_c ?_ | refine s_ret ?_ | refine s_skip ?_
    | refine r_cons ?_ | refine r_nil ?_ | refine a_consT ?_ | refine a_nil ?_ | refine k_cons ?_ | refine k_nil ?_ | refine a_consF ?_
    | refine f_call ?_ | refine f_callP ?_ | refine f_keep ?_ | refine f_tup ?_ | refine f_if ?_ | refine f_andV ?_ | refine f_orV ?_ | refine f_notV ?_ | refine f_isi ?_ | refine f_sl ?_ | refine f_un ?_ | refine f_chain ?_
    | refine b_and ?_ | refine b_or ?_ | refine b_not ?_ | refine b_yes ?_
    | refine s_asg ?_ | refine s_app ?_ | refine s_par ?_ | refine s_pars ?_ | refine s_drop ?_ | refine s_retN ?_ | refine s_break ?_ | refine s_cont ?_ | refine s_end ?_ | refine s_setP ?_ | refine s_dropP ?_ | refine s_appP ?_ | refine p_at ?_ | refine p_end ?_ | refine s_par3 ?_ | refine ex_three ?_ | refine i_zip ?_ | refine zz_L ?_ | refine zz_T ?_ | refine l_revL ?_ | refine ex_lst ?_
    | refine l_lst ?_ | refine l_dict ?_ | refine l_listL ?_ | refine o_no ?_ | refine o_part ?_ | refine i_enum ?_ | refine i_range1 ?_ | refine v_new ?_ | refine vs_nil ?_ | refine vs_cons ?_
  | ((with_reducible apply d_v); focus rfl)
  | ((with_reducible apply f_v); focus rfl)
  | ((with_reducible apply s_aug); focus rfl)
  | ((with_reducible apply f_callT); focus rfl)
  | ((with_reducible apply w_b); (focus rfl))
  | ((with_reducible apply i_itemsB); (focus rfl); (focus rfl))
  | with_reducible first | refine d_f ?_ | refine w_f ?_ | refine i_items ?_
  | ((with_reducible refine if_yes ?_ ?_); focus rfl)
  | ((with_reducible refine if_no ?_ ?_); focus rfl)
  | ((with_reducible apply op_ok); focus (first | walk_at "op" | walk_at "ix" | walk_at "op2"))
  | ((with_reducible refine len_ok ?_ ?_); focus (simp only [List.length_cons, List.length_nil]; decide))
  | ((with_reducible refine pk_ok ?_ ?_); focus rfl)
  | ((with_reducible refine lt_ok ?_ ?_); focus (simp only [List.length_append, List.length_cons, List.length_nil]; decide))
  | ((with_reducible refine dict_ok ?_ ?_); focus (exact ⟨rfl, by decide, by decide⟩))
  | ((with_reducible refine par_ok ?_ ?_); focus (refine ⟨?_, rfl⟩; simp only [List.length_cons, List.length_nil]; decide))
  | walk_at "call"
  | with_reducible first | refine ex_bool ?_ | refine ex_int ?_ | refine ex_itL ?_ | refine ex_itT ?_ | refine ex_rng ?_ | refine ex_two ?_ | refine ex_lstL ?_ | refine ex_lstT ?_
  | ((with_reducible apply ex_env); focus rfl)
  | ((with_reducible apply ex_own); focus rfl))
/-- a comprehension that draws numbers -/
theorem l_lc_draws {g : PyData → Env → Option Env} {f : ME Tr} {vs : List Nat} {its : Env → Tr → Option (List PyData × Tr)} {ρ : Env} {t : Tr} {Q : PyData → Tr → Prop} (n : Int) (c : Nat) (top : Nat)
    (hi : Eg its ρ t fun ds t1 => ds.length ≤ 1000000 ∧ TrOk n t1 ∧ (∀ (j : Nat) (d : PyData) (t : Tr), ds[j]? = some d → TrOk (n + c * j) t → ∃ ρ1, g d (wipeR ρ vs) = some ρ1 ∧ Ef f ρ1 t fun x t2 => ∃ r : Nat, x = .int r ∧ r < top ∧ TrOk (n + c * ((j + 1 : Nat) : Int)) t2) ∧
      ∀ (xs : List Nat) (t : Tr), xs.length = ds.length → (∀ x ∈ xs, x < top) → TrOk (n + c * ds.length) t → Q (.list (natsD xs)) t) : Eg (mLc its g mYes f vs) ρ t Q := by
  refine l_lc (fun j acc t => ∃ xs : List Nat, acc = natsD xs ∧ xs.length = j ∧ (∀ x ∈ xs, x < top) ∧ TrOk (n + c * j) t) ?_
  obtain ⟨ds, t1, e, hz, h0, hs, hq⟩ := hi
  refine ⟨ds, t1, e, fits hz, ⟨[], rfl, rfl, by simp, h0.mono (by omega)⟩, ?_, ?_⟩
  · rintro j d acc t hj ⟨xs, rfl, hl, hb, ht⟩
    obtain ⟨ρ1, e1, ef⟩ := hs j d t hj ht
    refine ⟨ρ1, e1, b_yes (if_yes rfl ?_)⟩
    refine ef.mono ?_
    rintro x t2 ⟨r, rfl, hr, h2⟩
    refine ⟨xs ++ [r], natsD_snoc _ _, by rw [List.length_append, hl]; rfl, fun x hx => ?_, h2⟩
    rcases List.mem_append.mp hx with hx | hx
    · exact hb x hx
    · cases List.mem_singleton.mp hx; exact hr
  · rintro acc t ⟨xs, rfl, hl, hb, ht⟩
    exact hq xs t hl hb ht
def Wd.of : RS.Ins → Wd
  | .zero => .zero | .ones => .ones | .un o _ => .un o | .bin o _ _ => .bin o | .mask _ => .mask
theorem row {n : Int} {t : Tr} {top : Nat} {wd : Wd} {P : PyData → Tr → Prop} (h : TrOk n t) (hn : n ≤ 800000000) (h0 : 1 ≤ top ∨ wd = .zero ∨ wd = .ones ∨ wd = .mask) (ht : top ≤ 1000000)
    (q : ∀ (I : RS.Ins) (t' : Tr), TrOk (n + 100) t' → I.ok top → Wd.of I = wd → P (RS.insD I) t') : ∃ z t2, f__law_row t [.str wd.s, .int (top : Int)] = some (z, t2) ∧ P z t2 := by
  refine funT_ok ?_
  refine s_env (ρ' := [some (.tray 0), some (.bor (.str wd.s)), some (.bor (.int top)), none, none, none]) rfl ?_
  unfold m__law_row
  by_cases hm : wd = .mask
  · subst hm
    repeat (first | walk_at "s")
    refine pick_ex h (by omega) (by simp) (by simp) fun x t1 h1 hx => ?_
    have hx2 : ∃ m : Nat, x = .int m ∧ 1 ≤ m ∧ m ≤ 24 := by
      simp only [List.mem_cons, List.not_mem_nil, or_false] at hx
      rcases hx with rfl | rfl | rfl
      · exact ⟨3, rfl, by omega, by omega⟩
      · exact ⟨8, rfl, by omega, by omega⟩
      · exact ⟨24, rfl, by omega, by omega⟩
    obtain ⟨m, rfl, hm1, hm2⟩ := hx2
    repeat (first | walk_at "s")
    refine draw_ex h1 (by omega) (by omega) (pow_small (by omega)) fun r t2 h2 hr => ?_
    repeat (first | walk_at "s")
    refine l_lc_draws (n + 1 + 1) 1 2 ?_
    repeat (first | walk_at "s")
    refine ⟨by omega, ?_⟩
    have e1 : ((1 : Int) + r).toNat = 1 + r := by omega
    rw [e1, natsD_len, List.length_range]
    refine ⟨by omega, h2, ?_, ?_⟩
    · intro j d t hj ht
      obtain ⟨k, hk, rfl⟩ := natsD_at hj
      have := range_at hk
      refine ex_env rfl ?_
      repeat (first | walk_at "s")
      refine draw_exI 2 rfl ht (by omega) (by omega) (by omega) fun r t1 h1 hr => ⟨r, rfl, hr, h1.mono (by omega)⟩
    · intro xs t hl hb ht
      repeat (first | walk_at "s")
      refine q (.mask xs) t (ht.mono (by omega)) ⟨fun z => ?_, by omega, fun b hb2 => ?_⟩ rfl
      · subst z; rw [List.length_nil] at hl; omega
      · have := hb b hb2; omega
  · refine s_seq (s_if (b_test (f_bin (d_v rfl (d_f (f_c (op_ok o_eqS (ex_bool (if_no ?_ ?_)))))))))
    · cases wd with
      | mask => exact absurd rfl hm
      | zero => rfl
      | ones => rfl
      | un o => cases o <;> rfl
      | bin o => cases o <;> rfl
    have ha := arity wd
    have hw2 : wd.arity ≤ 2 := by cases wd <;> (unfold Wd.arity; dsimp only; omega)
    repeat (first | with_reducible (first | refine op_ok ha ?_) | walk_at "s")
    refine l_lc_draws n 2 top ?_
    repeat (first | with_reducible (first | refine op_ok ha ?_) | walk_at "s")
    refine ⟨by omega, ?_⟩
    rw [natsD_len, List.length_range, Int.toNat_natCast]
    refine ⟨by omega, h, ?_, ?_⟩
    · intro j d t hj ht2
      obtain ⟨k, hk, rfl⟩ := natsD_at hj
      have := range_at hk
      refine ex_env rfl ?_
      repeat (first | walk_at "s")
      have h1 : 1 ≤ top := by
        rcases h0 with h0 | rfl | rfl | rfl
        · exact h0
        · exact absurd this.2 (Nat.not_lt_zero j)
        · exact absurd this.2 (Nat.not_lt_zero j)
        · exact absurd rfl hm
      refine operand ht2 (by omega) h1 ht fun r t' h' hr => ⟨r, rfl, hr, h'.mono (by omega)⟩
    · intro xs t hl hb ht2
      repeat (first | walk_at "s")
      refine op_ok (o_addT ?_) ?_
      · rw [natsD_len]
        refine fits ?_
        simp only [List.length_cons, List.length_nil]
        omega
      have h3 := ht2.mono (m := n + 100) (by omega)
      cases wd with
      | mask => exact absurd rfl hm
      | zero => cases List.eq_nil_of_length_eq_zero hl; exact q .zero t h3 trivial rfl
      | ones => cases List.eq_nil_of_length_eq_zero hl; exact q .ones t h3 trivial rfl
      | un o =>
        obtain ⟨a, rfl⟩ := List.length_eq_one_iff.mp hl
        exact q (.un o a) t h3 (hb a (by simp)) rfl
      | bin o =>
        obtain ⟨a, b, rfl⟩ : ∃ a b, xs = [a, b] := by
          match xs, hl with
          | [a, b], _ => exact ⟨a, b, rfl⟩
        exact q (.bin o a b) t h3 ⟨hb a (by simp), hb b (by simp)⟩ rfl
end BA
end Mi
/-! How long the repr of data is. -/
namespace Mi
open PySem L2
mutual
def plainD : PyData → Bool
  | .none => true
  | .bool _ => true
  | .int i => decide (i.natAbs.log2 < 1920)
  | .str x => x.cps.all (· < 1114112)
  | .list xs => plainA xs
  | .tuple xs => plainA xs
  | .dict _ => false
def plainA : List PyData → Bool
  | [] => true
  | x :: r => plainD x && plainA r
end
mutual
def wtD : PyData → Nat
  | .none => 4
  | .bool _ => 5
  | .int _ => 1925
  | .str x => 10 * x.length + 2
  | .list xs => wtA xs + 4
  | .tuple xs => wtA xs + 4
  | .dict _ => 0
def wtA : List PyData → Nat
  | [] => 0
  | x :: r => wtD x + 2 + wtA r
end
theorem textFrom_le : ∀ (ts : List Str) (k : Nat) (acc : Str), (textFrom k acc ts).length ≤ acc.length + piled ts
  | [], _, acc => by
    show acc.length ≤ _
    omega
  | t :: r, k, acc => by
    have ih := textFrom_le r (k + 1) (acc ++ (if k > 0 then ", " else "" : String) ++ t)
    have e : (acc ++ (if k > 0 then ", " else "" : String) ++ t).length ≤ acc.length + 2 + t.length := by
      rw [strLen_append, strLen_append]
      have : (((if k > 0 then ", " else "" : String) : Str)).length ≤ 2 := by split <;> decide
      omega
    rw [piled_cons]
    show (textFrom (k + 1) (acc ++ (if k > 0 then ", " else "" : String) ++ t) r).length ≤ _
    omega
theorem listText_le (ts : List Str) : (listText ts).length ≤ piled ts + 4 := by
  have h := textFrom_le ts 0 "["
  unfold listText
  rw [strLen_append]
  have e1 : ((("[" : String) : Str)).length = 1 := rfl
  have e2 : ((("]" : String) : Str)).length = 1 := rfl
  omega
theorem tupleText_le (ts : List Str) : (tupleText ts).length ≤ piled ts + 4 := by
  unfold tupleText
  rw [strLen_append, strLen_append]
  have e1 : ((("(" : String) : Str)).length = 1 := rfl
  have e3 : (((if ts.length == 1 then ",)" else ")" : String) : Str)).length ≤ 2 := by split <;> decide
  have e2 : (Str.join ", " ts).length ≤ piled ts := by
    by_cases h : ts = []
    · subst h; exact Nat.le_of_eq rfl
    · have := join_length_add ts h
      omega
  omega
mutual
theorem shown_le : ∀ d : PyData, plainD d = true → d.shown.length ≤ wtD d
  | .none, _ => by show (("None" : String) : Str).length ≤ 4; decide
  | .bool true, _ => by show (("True" : String) : Str).length ≤ 5; decide
  | .bool false, _ => by show (("False" : String) : Str).length ≤ 5; decide
  | .int i, h => by
    have h := of_decide_eq_true (show decide (i.natAbs.log2 < 1920) = true from h)
    have := int_text_length_le (k := 1920) (by decide) h
    show (Str.ofString (toString i)).length ≤ 1925
    rw [ofString_length]
    omega
  | .str x, h => by
    have h : x.cps.all (· < 1114112) = true := h
    refine PySem.StrLaws.reprText_len x fun c hc => ?_
    have := of_decide_eq_true (Array.all_eq_true_iff_forall_mem.mp h c (Array.mem_toList_iff.mp hc))
    omega
  | .list xs, h => by
    have := shownA_le xs h
    exact Nat.le_trans (by rw [PyData.shown]; exact listText_le _) (show piled (PyData.shownAll xs) + 4 ≤ wtA xs + 4 by omega)
  | .tuple xs, h => by
    have := shownA_le xs h
    exact Nat.le_trans (by rw [PyData.shown]; exact tupleText_le _) (show piled (PyData.shownAll xs) + 4 ≤ wtA xs + 4 by omega)
  | .dict _, h => by cases h
theorem shownA_le : ∀ xs : List PyData, plainA xs = true → piled (PyData.shownAll xs) ≤ wtA xs
  | [], _ => by rw [PyData.shownAll]; exact Nat.le_refl 0
  | x :: r, h => by
    have h : (plainD x && plainA r) = true := h
    rw [Bool.and_eq_true] at h
    have h1 := shown_le x h.1
    have h2 := shownA_le r h.2
    rw [PyData.shownAll, piled_cons]
    show _ ≤ wtD x + 2 + wtA r
    omega
end
mutual
theorem plain_ok : ∀ d : PyData, plainD d = true → d.showable = true ∧ d.hasDict = false
  | .none, _ => ⟨rfl, rfl⟩
  | .bool _, _ => ⟨rfl, rfl⟩
  | .int i, h => ⟨h, rfl⟩
  | .str _, _ => ⟨rfl, rfl⟩
  | .list xs, h => by rw [PyData.showable, PyData.hasDict]; exact plainA_ok xs h
  | .tuple xs, h => by rw [PyData.showable, PyData.hasDict]; exact plainA_ok xs h
  | .dict _, h => by cases h
theorem plainA_ok : ∀ xs : List PyData, plainA xs = true → PyData.showableAll xs = true ∧ PyData.hasDictAll xs = false
  | [], _ => ⟨rfl, rfl⟩
  | x :: r, h => by
    have h : (plainD x && plainA r) = true := h
    rw [Bool.and_eq_true] at h
    have h1 := plain_ok x h.1
    have h2 := plainA_ok r h.2
    rw [PyData.showableAll, PyData.hasDictAll, h1.1, h1.2, h2.1, h2.2]
    exact ⟨rfl, rfl⟩
end
theorem repr_ok {d : PyData} (h : plainD d = true) (hd : d.depth ≤ 60) (hz : wtD d ≤ 16777216) : reprD [d] = some (.str d.shown) := by
  have h1 := plain_ok d h
  refine if_pos ⟨h1.1, Nat.le_trans (shown_le d h) hz, hd, fun z => ?_⟩
  rw [h1.2] at z
  cases z
end Mi
/-! Texts of data that are not too long; items in a drawn sequence. -/
namespace Mi
open PySem L2
def Sh (d : PyData) (w k : Nat) : Prop := plainD d = true ∧ wtD d ≤ w ∧ d.depth ≤ k
def ShA (ds : List PyData) (w k : Nat) : Prop := plainA ds = true ∧ wtA ds ≤ w ∧ PyData.depthAll ds ≤ k
theorem Sh.mono {d : PyData} {w k w' k' : Nat} (h : Sh d w k) (h1 : w ≤ w') (h2 : k ≤ k') : Sh d w' k' := ⟨h.1, Nat.le_trans h.2.1 h1, Nat.le_trans h.2.2 h2⟩
theorem Sh.repr {d : PyData} {w k : Nat} (h : Sh d w k) (h1 : w ≤ 16777216) (h2 : k ≤ 60) : reprD [d] = some (.str d.shown) := repr_ok h.1 (Nat.le_trans h.2.2 h2) (Nat.le_trans h.2.1 h1)
theorem ShA.mono {d : List PyData} {w k w' k' : Nat} (h : ShA d w k) (h1 : w ≤ w') (h2 : k ≤ k') : ShA d w' k' := ⟨h.1, Nat.le_trans h.2.1 h1, Nat.le_trans h.2.2 h2⟩
namespace RS
end RS
namespace BA
local macro_rules | `(tactic| walk_at "op") => `(tactic| with_reducible first
  | exact o_add | exact o_addI | exact o_sub | exact o_lt | exact o_le | exact o_gt | exact o_ge | exact o_eqI | exact o_neI | exact o_eqS | exact o_neS | exact o_neg | exact o_inv | exact o_and | exact o_or | exact o_xor
  | exact o_int | exact o_intB | exact o_abs | exact o_tupL | exact o_tupT | exact o_lenL | exact o_lenT | exact o_isN | exact o_isNotN)
local macro_rules | `(tactic| walk_at "ix") => `(tactic| ((with_reducible apply o_ixA); (first | apply o_ixL | apply o_ixT | apply o_dixS); focus rfl))
local macro_rules | `(tactic| walk_at "op2") => `(tactic| first
  | ((with_reducible apply o_inA); focus rfl)
  | ((with_reducible apply o_notInA); focus rfl)
  | (with_reducible (first | refine o_addL ?_ | refine o_addT ?_); simp only [List.length_cons, List.length_nil]; decide)
  | ((with_reducible apply o_modA); focus (exact mod_ok (by decide)))
  | ((with_reducible apply o_fdivA); focus (exact o_fdiv (by decide) (by decide))))
local macro_rules | `(tactic| walk_at "call") => `(tactic| fail)
local macro_rules | `(tactic| walk_at "s") => `(tactic| first
  | ((with_reducible apply s_set_env); focus (dsimp only [List.set] <;> rfl))
  | ((with_reducible apply f_callPK); (focus rfl); (focus rfl))
  | with_reducible first
    | refine s_seq ?_ | refine d_f (f_bin ?_) | refine d_f (f_c ?_) | refine s_set ?_ | refine v_rv ?_ | refine s_if ?_ | refine b_test ?_ | refine f_bin ?_ | refine f_c ?_ | refine s_ret ?_ | refine s_skip ?_
    | refine r_cons ?_ | refine r_nil ?_ | refine a_consT ?_ | refine a_nil ?_ | refine k_cons ?_ | refine k_nil ?_ | refine a_consF ?_
    | refine f_call ?_ | refine f_callP ?_ | refine f_keep ?_ | refine f_tup ?_ | refine f_if ?_ | refine f_andV ?_ | refine f_orV ?_ | refine f_notV ?_ | refine f_isi ?_ | refine f_sl ?_ | refine f_un ?_ | refine f_chain ?_
    | refine b_and ?_ | refine b_or ?_ | refine b_not ?_ | refine b_yes ?_
    | refine s_asg ?_ | refine s_app ?_ | refine s_par ?_ | refine s_pars ?_ | refine s_drop ?_ | refine s_retN ?_ | refine s_break ?_ | refine s_cont ?_ | refine s_end ?_ | refine s_setP ?_ | refine s_dropP ?_ | refine s_appP ?_ | refine p_at ?_ | refine p_end ?_ | refine s_par3 ?_ | refine ex_three ?_ | refine i_zip ?_ | refine zz_L ?_ | refine zz_T ?_ | refine l_revL ?_ | refine ex_lst ?_
    | refine l_lst ?_ | refine l_dict ?_ | refine l_listL ?_ | refine o_no ?_ | refine o_part ?_ | refine i_enum ?_ | refine i_range1 ?_ | refine v_new ?_ | refine vs_nil ?_ | refine vs_cons ?_
  | ((with_reducible apply d_v); focus rfl)
  | ((with_reducible apply f_v); focus rfl)
  | ((with_reducible apply s_aug); focus rfl)
  | ((with_reducible apply f_callT); focus rfl)
  | ((with_reducible apply w_b); (focus rfl))
  | ((with_reducible apply i_itemsB); (focus rfl); (focus rfl))
  | with_reducible first | refine d_f ?_ | refine w_f ?_ | refine i_items ?_
  | ((with_reducible refine if_yes ?_ ?_); focus rfl)
  | ((with_reducible refine if_no ?_ ?_); focus rfl)
  | ((with_reducible apply op_ok); focus (first | walk_at "op" | walk_at "ix" | walk_at "op2"))
  | ((with_reducible refine len_ok ?_ ?_); focus (simp only [List.length_cons, List.length_nil]; decide))
  | ((with_reducible refine pk_ok ?_ ?_); focus rfl)
  | ((with_reducible refine lt_ok ?_ ?_); focus (simp only [List.length_append, List.length_cons, List.length_nil]; decide))
  | ((with_reducible refine dict_ok ?_ ?_); focus (exact ⟨rfl, by decide, by decide⟩))
  | ((with_reducible refine par_ok ?_ ?_); focus (refine ⟨?_, rfl⟩; simp only [List.length_cons, List.length_nil]; decide))
  | walk_at "call"
  | with_reducible first | refine ex_bool ?_ | refine ex_int ?_ | refine ex_itL ?_ | refine ex_itT ?_ | refine ex_rng ?_ | refine ex_two ?_ | refine ex_lstL ?_ | refine ex_lstT ?_
  | ((with_reducible apply ex_env); focus rfl)
  | ((with_reducible apply ex_own); focus rfl))
end BA
end Mi
/-! Texts of any data that are not too long, dicts too. -/
namespace Mi
open PySem L2
mutual
def anyD : PyData → Bool
  | .none => true
  | .bool _ => true
  | .int i => decide (i.natAbs.log2 < 1920)
  | .str x => x.cps.all (· < 1114112)
  | .list xs => anyA xs
  | .tuple xs => anyA xs
  | .dict es => anyK es
def anyA : List PyData → Bool
  | [] => true
  | x :: r => anyD x && anyA r
def anyK : List (PyData × PyData) → Bool
  | [] => true
  | (a, b) :: r => anyD a && anyD b && anyK r
end
mutual
def wgD : PyData → Nat
  | .none => 4
  | .bool _ => 5
  | .int _ => 1925
  | .str x => 10 * x.length + 2
  | .list xs => wgA xs + 4
  | .tuple xs => wgA xs + 4
  | .dict es => wgK es + 4
def wgA : List PyData → Nat
  | [] => 0
  | x :: r => wgD x + 2 + wgA r
def wgK : List (PyData × PyData) → Nat
  | [] => 0
  | (a, b) :: r => wgD a + wgD b + 4 + wgK r
end
theorem dictText_le (ts : List Str) : (dictText ts).length ≤ piled ts + 4 := by
  unfold dictText
  rw [strLen_append, strLen_append]
  have e1 : ((("{" : String) : Str)).length = 1 := rfl
  have e3 : ((("}" : String) : Str)).length = 1 := rfl
  have e2 : (Str.join ", " ts).length ≤ piled ts := by
    by_cases h : ts = []
    · subst h; exact Nat.le_of_eq rfl
    · have := join_length_add ts h
      omega
  omega
mutual
theorem any_le : ∀ d : PyData, anyD d = true → d.shown.length ≤ wgD d
  | .none, _ => by show (("None" : String) : Str).length ≤ 4; decide
  | .bool true, _ => by show (("True" : String) : Str).length ≤ 5; decide
  | .bool false, _ => by show (("False" : String) : Str).length ≤ 5; decide
  | .int i, h => shown_le (.int i) h
  | .str x, h => shown_le (.str x) h
  | .list xs, h => by
    have := anyA_le xs h
    exact Nat.le_trans (by rw [PyData.shown]; exact listText_le _) (show piled (PyData.shownAll xs) + 4 ≤ wgA xs + 4 by omega)
  | .tuple xs, h => by
    have := anyA_le xs h
    exact Nat.le_trans (by rw [PyData.shown]; exact tupleText_le _) (show piled (PyData.shownAll xs) + 4 ≤ wgA xs + 4 by omega)
  | .dict es, h => by
    have := anyK_le es h
    exact Nat.le_trans (by rw [PyData.shown]; exact dictText_le _) (show piled (PyData.shownKv es) + 4 ≤ wgK es + 4 by omega)
theorem anyA_le : ∀ xs : List PyData, anyA xs = true → piled (PyData.shownAll xs) ≤ wgA xs
  | [], _ => by rw [PyData.shownAll]; exact Nat.le_refl 0
  | x :: r, h => by
    have h : (anyD x && anyA r) = true := h
    rw [Bool.and_eq_true] at h
    have h1 := any_le x h.1
    have h2 := anyA_le r h.2
    rw [PyData.shownAll, piled_cons]
    show _ ≤ wgD x + 2 + wgA r
    omega
theorem anyK_le : ∀ xs : List (PyData × PyData), anyK xs = true → piled (PyData.shownKv xs) ≤ wgK xs
  | [], _ => by rw [PyData.shownKv]; exact Nat.le_refl 0
  | (a, b) :: r, h => by
    have h : (anyD a && anyD b && anyK r) = true := h
    rw [Bool.and_eq_true, Bool.and_eq_true] at h
    have h1 := any_le a h.1.1
    have h3 := any_le b h.1.2
    have h2 := anyK_le r h.2
    rw [PyData.shownKv, piled_cons, strLen_append, strLen_append]
    have e1 : (((": " : String) : Str)).length = 2 := rfl
    show _ ≤ wgD a + wgD b + 4 + wgK r
    omega
end
mutual
theorem any_ok : ∀ d : PyData, anyD d = true → d.showable = true
  | .none, _ => rfl
  | .bool _, _ => rfl
  | .int i, h => h
  | .str _, _ => rfl
  | .list xs, h => by rw [PyData.showable]; exact anyA_ok xs h
  | .tuple xs, h => by rw [PyData.showable]; exact anyA_ok xs h
  | .dict es, h => by rw [PyData.showable]; exact anyK_ok es h
theorem anyA_ok : ∀ xs : List PyData, anyA xs = true → PyData.showableAll xs = true
  | [], _ => rfl
  | x :: r, h => by
    have h : (anyD x && anyA r) = true := h
    rw [Bool.and_eq_true] at h
    rw [PyData.showableAll, any_ok x h.1, anyA_ok r h.2]
    rfl
theorem anyK_ok : ∀ xs : List (PyData × PyData), anyK xs = true → PyData.showableKv xs = true
  | [], _ => rfl
  | (a, b) :: r, h => by
    have h : (anyD a && anyD b && anyK r) = true := h
    rw [Bool.and_eq_true, Bool.and_eq_true] at h
    rw [PyData.showableKv, any_ok a h.1.1, any_ok b h.1.2, anyK_ok r h.2]
    rfl
end
/-- any data, no longer than w, no deeper than k -/
def An (d : PyData) (w k : Nat) : Prop := anyD d = true ∧ wgD d ≤ w ∧ d.depth ≤ k
def AnA (ds : List PyData) (w k : Nat) : Prop := anyA ds = true ∧ wgA ds ≤ w ∧ PyData.depthAll ds ≤ k
theorem An.mono {d : PyData} {w k w' k' : Nat} (h : An d w k) (h1 : w ≤ w') (h2 : k ≤ k') : An d w' k' := ⟨h.1, Nat.le_trans h.2.1 h1, Nat.le_trans h.2.2 h2⟩
theorem AnA.mono {d : List PyData} {w k w' k' : Nat} (h : AnA d w k) (h1 : w ≤ w') (h2 : k ≤ k') : AnA d w' k' := ⟨h.1, Nat.le_trans h.2.1 h1, Nat.le_trans h.2.2 h2⟩
theorem An.repr {d : PyData} {w k : Nat} (h : An d w k) (h1 : w ≤ 16777216) (h2 : k ≤ 60) : reprE [d] = some (.str d.shown) :=
  if_pos ⟨any_ok d h.1, Nat.le_trans (any_le d h.1) (Nat.le_trans h.2.1 h1), Nat.le_trans h.2.2 h2⟩
theorem an_nil {k : Nat} : AnA [] 0 k := ⟨rfl, Nat.le_refl 0, by rw [PyData.depthAll]; exact Nat.zero_le _⟩
theorem an_cons {d : PyData} {ds : List PyData} {w w' k : Nat} (h : An d w k) (h2 : AnA ds w' k) : AnA (d :: ds) (w + 2 + w') k := by
  refine ⟨?_, ?_, ?_⟩
  · show (anyD d && anyA ds) = true
    rw [h.1, h2.1]
    rfl
  · have := h.2.1
    have := h2.2.1
    show wgD d + 2 + wgA ds ≤ _
    omega
  · rw [PyData.depthAll]
    exact Nat.max_le.mpr ⟨h.2.2, h2.2.2⟩
theorem AnA.of_mem : ∀ {ds : List PyData} {w k : Nat}, (∀ d ∈ ds, An d w k) → AnA ds (ds.length * (w + 2)) k
  | [], _, _, _ => an_nil.mono (Nat.zero_le _) (Nat.le_refl _)
  | d :: ds, w, k, h => by
    have h1 := h d (List.mem_cons_self ..)
    have h2 := AnA.of_mem (fun d m => h d (List.mem_cons_of_mem _ m))
    refine (an_cons h1 h2).mono ?_ (Nat.le_refl _)
    rw [List.length_cons, Nat.add_mul, Nat.one_mul]
    omega
theorem AnA.mem : ∀ {ds : List PyData} {w k : Nat}, AnA ds w k → ∀ d ∈ ds, An d w k
  | x :: r, w, k, h, d, m => by
    obtain ⟨h1, h2, h3⟩ := h
    have h1 : (anyD x && anyA r) = true := h1
    rw [Bool.and_eq_true] at h1
    have h2 : wgD x + 2 + wgA r ≤ w := h2
    rw [PyData.depthAll] at h3
    have h3 := Nat.max_le.mp h3
    rcases List.mem_cons.mp m with rfl | m
    · exact ⟨h1.1, by omega, h3.1⟩
    · exact AnA.mem ⟨h1.2, by omega, h3.2⟩ d m
theorem An.tup {ds : List PyData} {w k : Nat} (h : An (.tuple ds) w (k + 1)) : AnA ds w k := by
  obtain ⟨h1, h2, h3⟩ := h
  have h2 : wgA ds + 4 ≤ w := h2
  rw [PyData.depth] at h3
  exact ⟨h1, by omega, by omega⟩
theorem AnA.len : ∀ {ds : List PyData} {w k : Nat}, AnA ds w k → 2 * ds.length ≤ w
  | [], _, _, _ => Nat.zero_le _
  | x :: r, w, k, h => by
    obtain ⟨h1, h2, h3⟩ := h
    have h1 : (anyD x && anyA r) = true := h1
    rw [Bool.and_eq_true] at h1
    have h2 : wgD x + 2 + wgA r ≤ w := h2
    have := AnA.len (ds := r) (w := w - 2) (k := PyData.depthAll r) ⟨h1.2, by omega, Nat.le_refl _⟩
    rw [List.length_cons]
    omega
theorem AnA.append : ∀ {as bs : List PyData} {w w' k : Nat}, AnA as w k → AnA bs w' k → AnA (as ++ bs) (w + w') k
  | [], _, _, _, _, _, h => h.mono (by omega) (Nat.le_refl _)
  | a :: as, bs, w, w', k, h, h' => by
    obtain ⟨h1, h2, h3⟩ := h
    have h1 : (anyD a && anyA as) = true := h1
    rw [Bool.and_eq_true] at h1
    have h2 : wgD a + 2 + wgA as ≤ w := h2
    rw [PyData.depthAll] at h3
    have h3 := Nat.max_le.mp h3
    have := AnA.append (as := as) (bs := bs) (w := w - 2 - wgD a) ⟨h1.2, by omega, h3.2⟩ h'
    exact (an_cons (w := wgD a) ⟨h1.1, Nat.le_refl _, h3.1⟩ this).mono (by omega) (Nat.le_refl _)
/-- a part of the items, in any order and with repeats: no longer than so many times the longest -/
theorem AnA.part {as bs : List PyData} {w k : Nat} (h : AnA as w k) (hs : ∀ b ∈ bs, b ∈ as) : AnA bs (bs.length * (w + 2)) k := AnA.of_mem fun d m => h.mem d (hs d m)
mutual
theorem any_plain : ∀ d : PyData, plainD d = true → anyD d = true ∧ wgD d = wtD d
  | .none, _ => ⟨rfl, rfl⟩
  | .bool _, _ => ⟨rfl, rfl⟩
  | .int i, h => ⟨h, rfl⟩
  | .str _, h => ⟨h, rfl⟩
  | .list xs, h => by
    obtain ⟨a, b⟩ := anyA_plain xs h
    exact ⟨a, by rw [wgD, wtD, b]⟩
  | .tuple xs, h => by
    obtain ⟨a, b⟩ := anyA_plain xs h
    exact ⟨a, by rw [wgD, wtD, b]⟩
  | .dict es, h => by cases h
theorem anyA_plain : ∀ xs : List PyData, plainA xs = true → anyA xs = true ∧ wgA xs = wtA xs
  | [], _ => ⟨rfl, rfl⟩
  | x :: r, h => by
    have h : (plainD x && plainA r) = true := h
    rw [Bool.and_eq_true] at h
    obtain ⟨a, b⟩ := any_plain x h.1
    obtain ⟨c, d⟩ := anyA_plain r h.2
    rw [anyA, wgA, wtA, a, b, c, d]
    exact ⟨rfl, rfl⟩
end
theorem Sh.any {d : PyData} {w k : Nat} (h : Sh d w k) : An d w k := ⟨(any_plain d h.1).1, by rw [(any_plain d h.1).2]; exact h.2.1, h.2.2⟩
theorem ShA.any {d : List PyData} {w k : Nat} (h : ShA d w k) : AnA d w k := ⟨(anyA_plain d h.1).1, by rw [(anyA_plain d h.1).2]; exact h.2.1, h.2.2⟩
end Mi
/-! The same, with small ints counted as small. -/
namespace Mi
open PySem L2
mutual
def whD : PyData → Nat
  | .none => 4
  | .bool _ => 5
  | .int i => if i.natAbs < 1048576 then 25 else 1925
  | .str x => 10 * x.length + 2
  | .list xs => whA xs + 4
  | .tuple xs => whA xs + 4
  | .dict es => whK es + 4
def whA : List PyData → Nat
  | [] => 0
  | x :: r => whD x + 2 + whA r
def whK : List (PyData × PyData) → Nat
  | [] => 0
  | (a, b) :: r => whD a + whD b + 4 + whK r
end
mutual
theorem bny_le : ∀ d : PyData, anyD d = true → d.shown.length ≤ whD d
  | .none, _ => by show (("None" : String) : Str).length ≤ 4; decide
  | .bool true, _ => by show (("True" : String) : Str).length ≤ 5; decide
  | .bool false, _ => by show (("False" : String) : Str).length ≤ 5; decide
  | .int i, h => by
    show _ ≤ if i.natAbs < 1048576 then 25 else 1925
    split
    · rename_i hs
      have hl : i.natAbs.log2 < 20 := by
        by_cases h0 : i.natAbs = 0
        · rw [h0]; decide
        · exact (Nat.log2_lt h0).mpr (by omega)
      have := int_text_length_le (k := 20) (by decide) hl
      show (Str.ofString (toString i)).length ≤ 25
      rw [ofString_length]
      omega
    · exact shown_le (.int i) h
  | .str x, h => shown_le (.str x) h
  | .list xs, h => by
    have := bnyA_le xs h
    exact Nat.le_trans (by rw [PyData.shown]; exact listText_le _) (show piled (PyData.shownAll xs) + 4 ≤ whA xs + 4 by omega)
  | .tuple xs, h => by
    have := bnyA_le xs h
    exact Nat.le_trans (by rw [PyData.shown]; exact tupleText_le _) (show piled (PyData.shownAll xs) + 4 ≤ whA xs + 4 by omega)
  | .dict es, h => by
    have := bnyK_le es h
    exact Nat.le_trans (by rw [PyData.shown]; exact dictText_le _) (show piled (PyData.shownKv es) + 4 ≤ whK es + 4 by omega)
theorem bnyA_le : ∀ xs : List PyData, anyA xs = true → piled (PyData.shownAll xs) ≤ whA xs
  | [], _ => by rw [PyData.shownAll]; exact Nat.le_refl 0
  | x :: r, h => by
    have h : (anyD x && anyA r) = true := h
    rw [Bool.and_eq_true] at h
    have h1 := bny_le x h.1
    have h2 := bnyA_le r h.2
    rw [PyData.shownAll, piled_cons]
    show _ ≤ whD x + 2 + whA r
    omega
theorem bnyK_le : ∀ xs : List (PyData × PyData), anyK xs = true → piled (PyData.shownKv xs) ≤ whK xs
  | [], _ => by rw [PyData.shownKv]; exact Nat.le_refl 0
  | (a, b) :: r, h => by
    have h : (anyD a && anyD b && anyK r) = true := h
    rw [Bool.and_eq_true, Bool.and_eq_true] at h
    have h1 := bny_le a h.1.1
    have h3 := bny_le b h.1.2
    have h2 := bnyK_le r h.2
    rw [PyData.shownKv, piled_cons, strLen_append, strLen_append]
    have e1 : (((": " : String) : Str)).length = 2 := rfl
    show _ ≤ whD a + whD b + 4 + whK r
    omega
end
/-- any data, no longer than w, no deeper than k -/
def Bn (d : PyData) (w k : Nat) : Prop := anyD d = true ∧ whD d ≤ w ∧ d.depth ≤ k
def BnA (ds : List PyData) (w k : Nat) : Prop := anyA ds = true ∧ whA ds ≤ w ∧ PyData.depthAll ds ≤ k
theorem Bn.mono {d : PyData} {w k w' k' : Nat} (h : Bn d w k) (h1 : w ≤ w') (h2 : k ≤ k') : Bn d w' k' := ⟨h.1, Nat.le_trans h.2.1 h1, Nat.le_trans h.2.2 h2⟩
theorem BnA.mono {d : List PyData} {w k w' k' : Nat} (h : BnA d w k) (h1 : w ≤ w') (h2 : k ≤ k') : BnA d w' k' := ⟨h.1, Nat.le_trans h.2.1 h1, Nat.le_trans h.2.2 h2⟩
theorem Bn.repr {d : PyData} {w k : Nat} (h : Bn d w k) (h1 : w ≤ 16777216) (h2 : k ≤ 60) : reprE [d] = some (.str d.shown) :=
  if_pos ⟨any_ok d h.1, Nat.le_trans (bny_le d h.1) (Nat.le_trans h.2.1 h1), Nat.le_trans h.2.2 h2⟩
theorem bn_nil {k : Nat} : BnA [] 0 k := ⟨rfl, Nat.le_refl 0, by rw [PyData.depthAll]; exact Nat.zero_le _⟩
theorem bn_cons {d : PyData} {ds : List PyData} {w w' k : Nat} (h : Bn d w k) (h2 : BnA ds w' k) : BnA (d :: ds) (w + 2 + w') k := by
  refine ⟨?_, ?_, ?_⟩
  · show (anyD d && anyA ds) = true
    rw [h.1, h2.1]
    rfl
  · have := h.2.1
    have := h2.2.1
    show whD d + 2 + whA ds ≤ _
    omega
  · rw [PyData.depthAll]
    exact Nat.max_le.mpr ⟨h.2.2, h2.2.2⟩
theorem bn_tup {ds : List PyData} {w k : Nat} (h : BnA ds w k) : Bn (.tuple ds) (w + 4) (k + 1) := by
  refine ⟨h.1, ?_, ?_⟩
  · have := h.2.1
    show whA ds + 4 ≤ _
    omega
  · have := h.2.2
    rw [PyData.depth]
    omega
theorem bn_lst {ds : List PyData} {w k : Nat} (h : BnA ds w k) : Bn (.list ds) (w + 4) (k + 1) := by
  refine ⟨h.1, ?_, ?_⟩
  · have := h.2.1
    show whA ds + 4 ≤ _
    omega
  · have := h.2.2
    rw [PyData.depth]
    omega
theorem BnA.of_mem : ∀ {ds : List PyData} {w k : Nat}, (∀ d ∈ ds, Bn d w k) → BnA ds (ds.length * (w + 2)) k
  | [], _, _, _ => bn_nil.mono (Nat.zero_le _) (Nat.le_refl _)
  | d :: ds, w, k, h => by
    have h1 := h d (List.mem_cons_self ..)
    have h2 := BnA.of_mem (fun d m => h d (List.mem_cons_of_mem _ m))
    refine (bn_cons h1 h2).mono ?_ (Nat.le_refl _)
    rw [List.length_cons, Nat.add_mul, Nat.one_mul]
    omega
theorem BnA.mem : ∀ {ds : List PyData} {w k : Nat}, BnA ds w k → ∀ d ∈ ds, Bn d w k
  | x :: r, w, k, h, d, m => by
    obtain ⟨h1, h2, h3⟩ := h
    have h1 : (anyD x && anyA r) = true := h1
    rw [Bool.and_eq_true] at h1
    have h2 : whD x + 2 + whA r ≤ w := h2
    rw [PyData.depthAll] at h3
    have h3 := Nat.max_le.mp h3
    rcases List.mem_cons.mp m with rfl | m
    · exact ⟨h1.1, by omega, h3.1⟩
    · exact BnA.mem ⟨h1.2, by omega, h3.2⟩ d m
theorem Bn.tup {ds : List PyData} {w k : Nat} (h : Bn (.tuple ds) w (k + 1)) : BnA ds w k := by
  obtain ⟨h1, h2, h3⟩ := h
  have h2 : whA ds + 4 ≤ w := h2
  rw [PyData.depth] at h3
  exact ⟨h1, by omega, by omega⟩
theorem BnA.len : ∀ {ds : List PyData} {w k : Nat}, BnA ds w k → 2 * ds.length ≤ w
  | [], _, _, _ => Nat.zero_le _
  | x :: r, w, k, h => by
    obtain ⟨h1, h2, h3⟩ := h
    have h1 : (anyD x && anyA r) = true := h1
    rw [Bool.and_eq_true] at h1
    have h2 : whD x + 2 + whA r ≤ w := h2
    have := BnA.len (ds := r) (w := w - 2) (k := PyData.depthAll r) ⟨h1.2, by omega, Nat.le_refl _⟩
    rw [List.length_cons]
    omega
theorem BnA.append : ∀ {as bs : List PyData} {w w' k : Nat}, BnA as w k → BnA bs w' k → BnA (as ++ bs) (w + w') k
  | [], _, _, _, _, _, h => h.mono (by omega) (Nat.le_refl _)
  | a :: as, bs, w, w', k, h, h' => by
    obtain ⟨h1, h2, h3⟩ := h
    have h1 : (anyD a && anyA as) = true := h1
    rw [Bool.and_eq_true] at h1
    have h2 : whD a + 2 + whA as ≤ w := h2
    rw [PyData.depthAll] at h3
    have h3 := Nat.max_le.mp h3
    have := BnA.append (as := as) (bs := bs) (w := w - 2 - whD a) ⟨h1.2, by omega, h3.2⟩ h'
    exact (bn_cons (w := whD a) ⟨h1.1, Nat.le_refl _, h3.1⟩ this).mono (by omega) (Nat.le_refl _)
/-- a part of the items, in any order and with repeats: no longer than so many times the longest -/
theorem BnA.part {as bs : List PyData} {w k : Nat} (h : BnA as w k) (hs : ∀ b ∈ bs, b ∈ as) : BnA bs (bs.length * (w + 2)) k := BnA.of_mem fun d m => h.mem d (hs d m)
end Mi
namespace Mi.BA
open PySem L2

def m__law_program : MS Tr :=
  (mSeq (mSet 4 (mNew (mLst mNil)))
  (mSeq (mFor (mRange1 (mCons (mV 2) mNil)) (gN 5) (mSeq (mSet 6 (mRv (mCallT [true] f__law_pick (mCons (mV 0) (mCons (mV 3) mNil)))))
  (mSeq (mIfS (mAnd (mTest (mBin eqD (mBin addD (mV 1) (mV 5)) (mC (.int 0)))) (mTest (mBin notInD (mV 6) (mTup (mCons (mC (.str "zero")) (mCons (mC (.str "ones")) (mCons (mC (.str "mask")) mNil))))))) (mSet 6 (mRv (mCallT [true] f__law_pick (mCons (mV 0) (mCons (mKeep (mLst (mCons (mC (.str "zero")) (mCons (mC (.str "ones")) mNil)))) mNil))))) mSkip)
  (mApp 4 (mCallT [true, true] f__law_row (mCons (mV 0) (mCons (mV 6) (mCons (mBin addD (mV 1) (mV 5)) mNil))))))))
  (mRet (mTup (mCons (mV 1) (mCons (mCall tupleD (mCons (mV 4) mNil)) mNil))))))
def f__law_program : Tr → List PyData → Option (PyData × Tr) := mFunT 7 [true, true, true] m__law_program

end Mi.BA
/-! Words as bits, as the second family of laws has them. -/
namespace Mi
open PySem L2
namespace RS
/-- the parity of the first i bits -/
def par (x : Nat) : Nat → Bool
  | 0 => false
  | i + 1 => par x i ^^ x.testBit i
end RS
namespace BA
open RS
local macro_rules | `(tactic| walk_at "op") => `(tactic| with_reducible first
  | exact o_add | exact o_addI | exact o_sub | exact o_lt | exact o_le | exact o_gt | exact o_ge | exact o_eqI | exact o_neI | exact o_eqS | exact o_neS | exact o_neg | exact o_inv | exact o_and | exact o_or | exact o_xor
  | exact o_int | exact o_intB | exact o_abs | exact o_tupL | exact o_tupT | exact o_lenL | exact o_lenT | exact o_isN | exact o_isNotN)
local macro_rules | `(tactic| walk_at "ix") => `(tactic| ((with_reducible apply o_ixA); (first | apply o_ixL | apply o_ixT | apply o_dixS); focus rfl))
local macro_rules | `(tactic| walk_at "op2") => `(tactic| first
  | ((with_reducible apply o_inA); focus rfl)
  | ((with_reducible apply o_notInA); focus rfl)
  | (with_reducible (first | refine o_addL ?_ | refine o_addT ?_); simp only [List.length_cons, List.length_nil]; decide)
  | ((with_reducible apply o_modA); focus (exact mod_ok (by decide)))
  | ((with_reducible apply o_fdivA); focus (exact o_fdiv (by decide) (by decide))))
local macro_rules | `(tactic| walk_at "call") => `(tactic| fail)
local macro_rules | `(tactic| walk_at "s") => `(tactic| first
  | ((with_reducible apply s_set_env); focus (dsimp only [List.set] <;> rfl))
  | ((with_reducible apply f_callPK); (focus rfl); (focus rfl))
  | with_reducible first
    | refine s_seq ?_ | refine d_f (f_bin ?_) | refine d_f (f_c ?_) | refine s_set ?_ | refine v_rv ?_ | refine s_if ?_ | refine b_test ?_ | refine f_bin ?_ | refine f_c ?_ | refine s_ret ?_ | refine s_skip ?_
    | refine r_cons ?_ | refine r_nil ?_ | refine a_consT ?_ | refine a_nil ?_ | refine k_cons ?_ | refine k_nil ?_ | refine a_consF ?_
    | refine f_call ?_ | refine f_callP ?_ | refine f_keep ?_ | refine f_tup ?_ | refine f_if ?_ | refine f_andV ?_ | refine f_orV ?_ | refine f_notV ?_ | refine f_isi ?_ | refine f_sl ?_ | refine f_un ?_ | refine f_chain ?_
    | refine b_and ?_ | refine b_or ?_ | refine b_not ?_ | refine b_yes ?_
    | refine s_asg ?_ | refine s_app ?_ | refine s_par ?_ | refine s_pars ?_ | refine s_drop ?_ | refine s_retN ?_ | refine s_break ?_ | refine s_cont ?_ | refine s_end ?_ | refine s_setP ?_ | refine s_dropP ?_ | refine s_appP ?_ | refine p_at ?_ | refine p_end ?_ | refine s_par3 ?_ | refine ex_three ?_ | refine i_zip ?_ | refine zz_L ?_ | refine zz_T ?_ | refine l_revL ?_ | refine ex_lst ?_
    | refine l_lst ?_ | refine l_dict ?_ | refine l_listL ?_ | refine o_no ?_ | refine o_part ?_ | refine i_enum ?_ | refine i_range1 ?_ | refine v_new ?_ | refine vs_nil ?_ | refine vs_cons ?_
  | ((with_reducible apply d_v); focus rfl)
  | ((with_reducible apply f_v); focus rfl)
  | ((with_reducible apply s_aug); focus rfl)
  | ((with_reducible apply f_callT); focus rfl)
  | ((with_reducible apply w_b); (focus rfl))
  | ((with_reducible apply i_itemsB); (focus rfl); (focus rfl))
  | with_reducible first | refine d_f ?_ | refine w_f ?_ | refine i_items ?_
  | ((with_reducible refine if_yes ?_ ?_); focus rfl)
  | ((with_reducible refine if_no ?_ ?_); focus rfl)
  | ((with_reducible apply op_ok); focus (first | walk_at "op" | walk_at "ix" | walk_at "op2"))
  | ((with_reducible refine len_ok ?_ ?_); focus (simp only [List.length_cons, List.length_nil]; decide))
  | ((with_reducible refine pk_ok ?_ ?_); focus rfl)
  | ((with_reducible refine lt_ok ?_ ?_); focus (simp only [List.length_append, List.length_cons, List.length_nil]; decide))
  | ((with_reducible refine dict_ok ?_ ?_); focus (exact ⟨rfl, by decide, by decide⟩))
  | ((with_reducible refine par_ok ?_ ?_); focus (refine ⟨?_, rfl⟩; simp only [List.length_cons, List.length_nil]; decide))
  | walk_at "call"
  | with_reducible first | refine ex_bool ?_ | refine ex_int ?_ | refine ex_itL ?_ | refine ex_itT ?_ | refine ex_rng ?_ | refine ex_two ?_ | refine ex_lstL ?_ | refine ex_lstT ?_
  | ((with_reducible apply ex_env); focus rfl)
  | ((with_reducible apply ex_own); focus rfl))
end BA
end Mi
/-! The second family's own values of programs. -/
namespace Mi
open PySem L2
namespace BA
open RS
local macro_rules | `(tactic| walk_at "op") => `(tactic| with_reducible first
  | exact o_add | exact o_addI | exact o_sub | exact o_lt | exact o_le | exact o_gt | exact o_ge | exact o_eqI | exact o_neI | exact o_eqS | exact o_neS | exact o_neg | exact o_inv | exact o_and | exact o_or | exact o_xor
  | exact o_int | exact o_intB | exact o_abs | exact o_tupL | exact o_tupT | exact o_lenL | exact o_lenT | exact o_isN | exact o_isNotN)
local macro_rules | `(tactic| walk_at "ix") => `(tactic| ((with_reducible apply o_ixA); (first | apply o_ixL | apply o_ixT | apply o_dixS); focus rfl))
local macro_rules | `(tactic| walk_at "op2") => `(tactic| first
  | ((with_reducible apply o_inA); focus rfl)
  | ((with_reducible apply o_notInA); focus rfl)
  | (with_reducible (first | refine o_addL ?_ | refine o_addT ?_); simp only [List.length_cons, List.length_nil]; decide)
  | ((with_reducible apply o_modA); focus (exact mod_ok (by decide)))
  | ((with_reducible apply o_fdivA); focus (exact o_fdiv (by decide) (by decide))))
local macro_rules | `(tactic| walk_at "call") => `(tactic| fail)
local macro_rules | `(tactic| walk_at "s") => `(tactic| first
  | ((with_reducible apply s_set_env); focus (dsimp only [List.set] <;> rfl))
  | ((with_reducible apply f_callPK); (focus rfl); (focus rfl))
  | with_reducible first
    | refine s_seq ?_ | refine d_f (f_bin ?_) | refine d_f (f_c ?_) | refine s_set ?_ | refine v_rv ?_ | refine s_if ?_ | refine b_test ?_ | refine f_bin ?_ | refine f_c ?_ | refine s_ret ?_ | refine s_skip ?_
    | refine r_cons ?_ | refine r_nil ?_ | refine a_consT ?_ | refine a_nil ?_ | refine k_cons ?_ | refine k_nil ?_ | refine a_consF ?_
    | refine f_call ?_ | refine f_callP ?_ | refine f_keep ?_ | refine f_tup ?_ | refine f_if ?_ | refine f_andV ?_ | refine f_orV ?_ | refine f_notV ?_ | refine f_isi ?_ | refine f_sl ?_ | refine f_un ?_ | refine f_chain ?_
    | refine b_and ?_ | refine b_or ?_ | refine b_not ?_ | refine b_yes ?_
    | refine s_asg ?_ | refine s_app ?_ | refine s_par ?_ | refine s_pars ?_ | refine s_drop ?_ | refine s_retN ?_ | refine s_break ?_ | refine s_cont ?_ | refine s_end ?_ | refine s_setP ?_ | refine s_dropP ?_ | refine s_appP ?_ | refine p_at ?_ | refine p_end ?_ | refine s_par3 ?_ | refine ex_three ?_ | refine i_zip ?_ | refine zz_L ?_ | refine zz_T ?_ | refine l_revL ?_ | refine ex_lst ?_
    | refine l_lst ?_ | refine l_dict ?_ | refine l_listL ?_ | refine o_no ?_ | refine o_part ?_ | refine i_enum ?_ | refine i_range1 ?_ | refine v_new ?_ | refine vs_nil ?_ | refine vs_cons ?_
  | ((with_reducible apply d_v); focus rfl)
  | ((with_reducible apply f_v); focus rfl)
  | ((with_reducible apply s_aug); focus rfl)
  | ((with_reducible apply f_callT); focus rfl)
  | ((with_reducible apply w_b); (focus rfl))
  | ((with_reducible apply i_itemsB); (focus rfl); (focus rfl))
  | with_reducible first | refine d_f ?_ | refine w_f ?_ | refine i_items ?_
  | ((with_reducible refine if_yes ?_ ?_); focus rfl)
  | ((with_reducible refine if_no ?_ ?_); focus rfl)
  | ((with_reducible apply op_ok); focus (first | walk_at "op" | walk_at "ix" | walk_at "op2"))
  | ((with_reducible refine len_ok ?_ ?_); focus (simp only [List.length_cons, List.length_nil]; decide))
  | ((with_reducible refine pk_ok ?_ ?_); focus rfl)
  | ((with_reducible refine lt_ok ?_ ?_); focus (simp only [List.length_append, List.length_cons, List.length_nil]; decide))
  | ((with_reducible refine dict_ok ?_ ?_); focus (exact ⟨rfl, by decide, by decide⟩))
  | ((with_reducible refine par_ok ?_ ?_); focus (refine ⟨?_, rfl⟩; simp only [List.length_cons, List.length_nil]; decide))
  | walk_at "call"
  | with_reducible first | refine ex_bool ?_ | refine ex_int ?_ | refine ex_itL ?_ | refine ex_itT ?_ | refine ex_rng ?_ | refine ex_two ?_ | refine ex_lstL ?_ | refine ex_lstT ?_
  | ((with_reducible apply ex_env); focus rfl)
  | ((with_reducible apply ex_own); focus rfl))
end BA
end Mi
/-! The second family's drawn programs. -/
namespace Mi
open PySem L2
namespace BA
open RS
local macro_rules | `(tactic| walk_at "op") => `(tactic| with_reducible first
  | exact o_add | exact o_addI | exact o_sub | exact o_lt | exact o_le | exact o_gt | exact o_ge | exact o_eqI | exact o_neI | exact o_eqS | exact o_neS | exact o_neg | exact o_inv | exact o_and | exact o_or | exact o_xor
  | exact o_int | exact o_intB | exact o_abs | exact o_tupL | exact o_tupT | exact o_lenL | exact o_lenT | exact o_isN | exact o_isNotN)
local macro_rules | `(tactic| walk_at "ix") => `(tactic| ((with_reducible apply o_ixA); (first | apply o_ixL | apply o_ixT | apply o_dixS); focus rfl))
local macro_rules | `(tactic| walk_at "op2") => `(tactic| first
  | ((with_reducible apply o_inA); focus rfl)
  | ((with_reducible apply o_notInA); focus rfl)
  | (with_reducible (first | refine o_addL ?_ | refine o_addT ?_); simp only [List.length_cons, List.length_nil]; decide)
  | ((with_reducible apply o_modA); focus (exact mod_ok (by decide)))
  | ((with_reducible apply o_fdivA); focus (exact o_fdiv (by decide) (by decide))))
local macro_rules | `(tactic| walk_at "call") => `(tactic| fail)
local macro_rules | `(tactic| walk_at "s") => `(tactic| first
  | ((with_reducible apply s_set_env); focus (dsimp only [List.set] <;> rfl))
  | ((with_reducible apply f_callPK); (focus rfl); (focus rfl))
  | with_reducible first
    | refine s_seq ?_ | refine d_f (f_bin ?_) | refine d_f (f_c ?_) | refine s_set ?_ | refine v_rv ?_ | refine s_if ?_ | refine b_test ?_ | refine f_bin ?_ | refine f_c ?_ | refine s_ret ?_ | refine s_skip ?_
    | refine r_cons ?_ | refine r_nil ?_ | refine a_consT ?_ | refine a_nil ?_ | refine k_cons ?_ | refine k_nil ?_ | refine a_consF ?_
    | refine f_call ?_ | refine f_callP ?_ | refine f_keep ?_ | refine f_tup ?_ | refine f_if ?_ | refine f_andV ?_ | refine f_orV ?_ | refine f_notV ?_ | refine f_isi ?_ | refine f_sl ?_ | refine f_un ?_ | refine f_chain ?_
    | refine b_and ?_ | refine b_or ?_ | refine b_not ?_ | refine b_yes ?_
    | refine s_asg ?_ | refine s_app ?_ | refine s_par ?_ | refine s_pars ?_ | refine s_drop ?_ | refine s_retN ?_ | refine s_break ?_ | refine s_cont ?_ | refine s_end ?_ | refine s_setP ?_ | refine s_dropP ?_ | refine s_appP ?_ | refine p_at ?_ | refine p_end ?_ | refine s_par3 ?_ | refine ex_three ?_ | refine i_zip ?_ | refine zz_L ?_ | refine zz_T ?_ | refine l_revL ?_ | refine ex_lst ?_
    | refine l_lst ?_ | refine l_dict ?_ | refine l_listL ?_ | refine o_no ?_ | refine o_part ?_ | refine i_enum ?_ | refine i_range1 ?_ | refine v_new ?_ | refine vs_nil ?_ | refine vs_cons ?_
  | ((with_reducible apply d_v); focus rfl)
  | ((with_reducible apply f_v); focus rfl)
  | ((with_reducible apply s_aug); focus rfl)
  | ((with_reducible apply f_callT); focus rfl)
  | ((with_reducible apply w_b); (focus rfl))
  | ((with_reducible apply i_itemsB); (focus rfl); (focus rfl))
  | with_reducible first | refine d_f ?_ | refine w_f ?_ | refine i_items ?_
  | ((with_reducible refine if_yes ?_ ?_); focus rfl)
  | ((with_reducible refine if_no ?_ ?_); focus rfl)
  | ((with_reducible apply op_ok); focus (first | walk_at "op" | walk_at "ix" | walk_at "op2"))
  | ((with_reducible refine len_ok ?_ ?_); focus (simp only [List.length_cons, List.length_nil]; decide))
  | ((with_reducible refine pk_ok ?_ ?_); focus rfl)
  | ((with_reducible refine lt_ok ?_ ?_); focus (simp only [List.length_append, List.length_cons, List.length_nil]; decide))
  | ((with_reducible refine dict_ok ?_ ?_); focus (exact ⟨rfl, by decide, by decide⟩))
  | ((with_reducible refine par_ok ?_ ?_); focus (refine ⟨?_, rfl⟩; simp only [List.length_cons, List.length_nil]; decide))
  | walk_at "call"
  | with_reducible first | refine ex_bool ?_ | refine ex_int ?_ | refine ex_itL ?_ | refine ex_itT ?_ | refine ex_rng ?_ | refine ex_two ?_ | refine ex_lstL ?_ | refine ex_lstT ?_
  | ((with_reducible apply ex_env); focus rfl)
  | ((with_reducible apply ex_own); focus rfl))
/-- a list of words of instructions -/
def WordsL (d : PyData) : Prop := ∃ xs : List PyData, d = .list xs ∧ xs ≠ [] ∧ xs.length ≤ 40 ∧ ∀ x ∈ xs, ∃ wd : Wd, x = .str wd.s
def isFree (wd : Wd) : Bool := match wd with
  | .zero => true | .ones => true | .mask => true | _ => false
theorem notIn_free (wd : Wd) : notInD (.str wd.s) (.tuple [.str "zero", .str "ones", .str "mask"]) = some (.bool (!isFree wd)) := by
  cases wd with
  | zero => rfl
  | ones => rfl
  | mask => rfl
  | un o => cases o <;> rfl
  | bin o => cases o <;> rfl
theorem program {n : Int} {t : Tr} {many size : Nat} {wl : PyData} {P : PyData → Tr → Prop} (h : TrOk n t) (hn : n ≤ 500000000) (hm : many ≤ 10) (hs0 : 1 ≤ size) (hs : size ≤ 1000) (hw : WordsL wl)
    (q : ∀ (rows : List Ins) (t' : Tr), TrOk (n + 110 * size) t' → OkP many rows → rows.length = size → P (progD many rows) t') : ∃ z t2, f__law_program t [.int (many : Int), .int (size : Int), wl] = some (z, t2) ∧ P z t2 := by
  obtain ⟨xs, rfl, h0, hl, hx⟩ := hw
  refine funT_ok ?_
  refine s_env (ρ' := [some (.tray 0), some (.bor (.int many)), some (.bor (.int size)), some (.bor (.list xs)), none, none, none]) rfl ?_
  unfold m__law_program
  repeat (first | walk_at "s")
  refine s_for (fun j ρ t => ∃ (rows : List Ins) (x5 x6 : Option Val), ρ = [some (.tray 0), some (.bor (.int many)), some (.bor (.int size)), some (.bor (.list xs)), some (.own (.list (rows.map insD))), x5, x6] ∧ rows.length = j ∧ (∀ (i : Nat) (I : Ins), rows[i]? = some I → I.ok (many + i)) ∧ TrOk (n + 110 * j) t) ?_
  repeat (first | walk_at "s")
  refine ⟨by omega, ⟨[], none, none, rfl, rfl, fun i I e => (nomatch e), h.mono (by omega)⟩, ?_, ?_⟩
  · rintro j d ρ t hj ⟨rows, x5, x6, rfl, hlen, hok, ht⟩
    obtain ⟨k, hk, rfl⟩ := natsD_at hj
    obtain ⟨rfl, hjl⟩ := range_at hk
    rw [Int.toNat_natCast] at hjl
    refine ex_env rfl ?_
    repeat (first | walk_at "s")
    refine pick_ex ht (by omega) h0 (by omega) fun x t1 h1 hx1 => ?_
    obtain ⟨wd, rfl⟩ := hx x hx1
    -- the row, once its word is drawn
    have rowS : ∀ (wd : Wd) (t : Tr), TrOk (n + 110 * (k : Nat) + 2) t → (1 ≤ many + k ∨ isFree wd = true) → Es (mApp 4 (mCallT [true, true] f__law_row (mCons (mV 0) (mCons (mV 6) (mCons (mBin addD (mV 1) (mV 5)) mNil))))) [some (.tray 0), some (.bor (.int many)), some (.bor (.int size)), some (.bor (.list xs)), some (.own (.list (rows.map insD))), some (.fro (.int k)), some (.fro (.str wd.s))] t
        (fun ρ t => ∃ (rows : List Ins) (x5 x6 : Option Val), ρ = [some (.tray 0), some (.bor (.int many)), some (.bor (.int size)), some (.bor (.list xs)), some (.own (.list (rows.map insD))), x5, x6] ∧ rows.length = k + 1 ∧ (∀ (i : Nat) (I : Ins), rows[i]? = some I → I.ok (many + i)) ∧ TrOk (n + 110 * ((k + 1 : Nat) : Int)) t)
        P
        (fun ρ1 t1 => Es (mRet (mTup (mCons (mV 1) (mCons (mCall tupleD (mCons (mV 4) mNil)) mNil)))) ρ1 t1 No P No No)
        (fun ρ t => ∃ (rows : List Ins) (x5 x6 : Option Val), ρ = [some (.tray 0), some (.bor (.int many)), some (.bor (.int size)), some (.bor (.list xs)), some (.own (.list (rows.map insD))), x5, x6] ∧ rows.length = k + 1 ∧ (∀ (i : Nat) (I : Ins), rows[i]? = some I → I.ok (many + i)) ∧ TrOk (n + 110 * ((k + 1 : Nat) : Int)) t) := fun wd t ht hfree => by
      repeat (first | walk_at "s")
      rw [show (many : Int) + (k : Int) = ((many + k : Nat) : Int) from (Int.natCast_add many k).symm]
      refine row ht (by omega) (by
        rcases hfree with hfree | hfree
        · exact .inl hfree
        · cases wd with
          | zero => exact .inr (.inl rfl)
          | ones => exact .inr (.inr (.inl rfl))
          | mask => exact .inr (.inr (.inr rfl))
          | un o => cases hfree
          | bin o => cases hfree) (by omega) ?_
      intro I t2 h2 hI _
      repeat (first | walk_at "s")
      refine ⟨by rw [List.length_map]; exact fits' (by omega), rows ++ [I], some (.fro (.int k)), some (.fro (.str wd.s)), ?_, by rw [List.length_append, hlen]; rfl, fun i J e => ?_, h2.mono (by omega)⟩
      · rw [List.map_append]
        rfl
      · by_cases hi : i < rows.length
        · rw [List.getElem?_append_left hi] at e
          exact hok i J e
        · rw [List.getElem?_append_right (by omega)] at e
          have : i - rows.length = 0 := by
            have := lt_at e
            rw [List.length_singleton] at this
            omega
          rw [this] at e
          cases e
          rw [show i = k from by omega]
          exact hI
    have en := notIn_free wd
    by_cases hz : many + k = 0
    · have ez : ((many : Int) + (k : Int) == 0) = true := by
        have : (many : Int) + (k : Int) = 0 := by omega
        rw [this]
        rfl
      refine s_set_env (ρ' := [some (.tray 0), some (.bor (.int many)), some (.bor (.int size)), some (.bor (.list xs)), some (.own (.list (rows.map insD))), some (.fro (.int k)), some (.fro (.str wd.s))]) rfl ?_
      refine s_seq (s_if (b_and (b_test (f_bin (d_f (f_bin (d_v rfl (d_v rfl (op_ok rfl (d_f (f_c (op_ok rfl (ex_bool (if_yes ez ?_))))))))))))))
      refine b_test (f_bin (d_v rfl (d_f (f_tup (k_cons (f_c (k_cons (f_c (k_cons (f_c (k_nil (len_ok (by simp only [List.length_cons, List.length_nil]; decide) (op_ok en (ex_bool ?_)))))))))))))) 
      refine if_both (fun hb => ?_) (fun hb => ?_)
      · repeat (first | walk_at "s")
        refine pick_ex h1 (by omega) (by simp) (by simp) fun y t2 h2 hy => ?_
        simp only [List.mem_cons, List.not_mem_nil, or_false] at hy
        rcases hy with rfl | rfl
        · exact s_set_env rfl (rowS .zero t2 (h2.mono (by omega)) (.inr rfl))
        · exact s_set_env rfl (rowS .ones t2 (h2.mono (by omega)) (.inr rfl))
      · refine s_skip ?_
        exact rowS wd t1 (h1.mono (by omega)) (.inr (by simpa using hb))
    · have ez : ((many : Int) + (k : Int) == 0) = false := beq_eq_false_iff_ne.mpr (by omega)
      refine s_set_env (ρ' := [some (.tray 0), some (.bor (.int many)), some (.bor (.int size)), some (.bor (.list xs)), some (.own (.list (rows.map insD))), some (.fro (.int k)), some (.fro (.str wd.s))]) rfl ?_
      refine s_seq (s_if (b_and (b_test (f_bin (d_f (f_bin (d_v rfl (d_v rfl (op_ok rfl (d_f (f_c (op_ok rfl (ex_bool (if_no ez (if_no rfl (s_skip ?_))))))))))))))))
      exact rowS wd t1 (h1.mono (by omega)) (.inl (by omega))
  · rintro ρ t ⟨rows, x5, x6, rfl, hlen, hok, ht⟩
    rw [natsD_len, List.length_range, Int.toNat_natCast] at hlen ht
    repeat (first | walk_at "s")
    exact q rows t ht ⟨hok, by rintro rfl; rw [List.length_nil] at hlen; omega, by omega⟩ hlen
end BA
end Mi
/-! Programs cut to a lesser width. -/
namespace Mi
open PySem L2
namespace RS
end RS
end Mi
/-! Small helps for laws. -/
namespace Mi.TI
open PySem L2
theorem bn_small {i : Int} {k : Nat} (h : i.natAbs < 1000000) : Bn (.int i) 25 k := by
  refine ⟨?_, ?_, by rw [PyData.depth]; exact Nat.zero_le _⟩
  · show decide (i.natAbs.log2 < 1920) = true
    refine decide_eq_true ?_
    by_cases h0 : i.natAbs = 0
    · rw [h0]; decide
    · exact Nat.lt_of_lt_of_le ((Nat.log2_lt h0).mpr (Nat.lt_of_lt_of_le h (by decide : 1000000 ≤ 2 ^ 20))) (by decide)
  · show (if i.natAbs < 1048576 then 25 else 1925) ≤ 25
    rw [if_pos (by omega)]
    exact Nat.le_refl _
theorem bn_int {i : Int} {n k : Nat} (h : i.natAbs < 2 ^ n) (hn : n ≤ 1920) : Bn (.int i) 1925 k := by
  refine ⟨?_, ?_, by rw [PyData.depth]; exact Nat.zero_le _⟩
  · show decide (i.natAbs.log2 < 1920) = true
    refine decide_eq_true ?_
    by_cases h0 : i.natAbs = 0
    · rw [h0]; decide
    · exact Nat.lt_of_lt_of_le ((Nat.log2_lt h0).mpr h) hn
  · show (if i.natAbs < 1048576 then 25 else 1925) ≤ 1925
    split <;> omega
theorem bn_big {m n k : Nat} (h : m < 2 ^ n) (hn : n ≤ 1920) : Bn (.int (m : Int)) 1925 k := bn_int (n := n) (by rw [Int.natAbs_natCast]; exact h) hn
theorem list_of (xs : List PyData) : listD [.tuple xs] = some (.list xs) := rfl
theorem o_ll {as bs : List PyData} (h : as.length + bs.length ≤ 1000000) : addD (.list as) (.list bs) = some (.list (as ++ bs)) := if_pos (fits h)
theorem eq_int (a b : Int) : eqD (.int a) (.int b) = some (.bool (decide (a = b))) := by
  show some (PyData.bool ((a == b))) = _
  congr 2
theorem drop_at {α : Type} {xs : List α} {j : Nat} {o : α} (h : xs[j]? = some o) : xs.drop j = o :: xs.drop (j + 1) := by
  obtain ⟨hlt, he⟩ := List.getElem?_eq_some_iff.mp h
  rw [List.drop_eq_getElem_cons hlt, he]
theorem ix0 (d : PyData) (ops : List PyData) : ixD (.tuple (d :: ops)) (.int 0) = some d := atI_nat (j := 0) rfl
theorem ix1 (d e : PyData) (ops : List PyData) : ixD (.tuple (d :: e :: ops)) (.int 1) = some e := atI_nat (j := 1) rfl
theorem mulN {a b : Nat} (ha : a < 2 ^ 1000) (hb : b < 2 ^ 1000) : mulD (.int (a : Int)) (.int (b : Int)) = some (.int ((a * b : Nat) : Int)) := by
  have : mulD (.int (a : Int)) (.int (b : Int)) = some (.int ((a : Int) * b)) := mulI_ok (a := 1000) (b := 1000) (by rw [Int.natAbs_natCast]; exact ha) (by rw [Int.natAbs_natCast]; exact hb) (by decide)
  rw [this]
  push_cast
  rfl
theorem addN (a b : Nat) : addD (.int (a : Int)) (.int (b : Int)) = some (.int ((a + b : Nat) : Int)) := by
  show some (PyData.int ((a : Int) + b)) = _
  push_cast
  rfl
end Mi.TI
/-! More small helps. -/
namespace Mi.TI
open PySem L2
theorem drawT {n : Int} {t : Tr} {z : Int} (m : Nat) {P : PyData → Tr → Prop} (e : z = (m : Int)) (h : TA.TrOk n t) (hn : n ≤ 1000000000) (h0 : 1 ≤ m) (hm : m ≤ 1000000) (q : ∀ (r : Nat) (t' : Tr), TA.TrOk (n + 1) t' → r < m → P (.int r) t') : ∃ z' t2, TA.f__law_draw t [.int z] = some (z', t2) ∧ P z' t2 := by
  subst e
  obtain ⟨r, t', e, h', hr⟩ := TA.draw h hn (pow_small hm)
  exact ⟨_, _, e, q r t' h' (by omega)⟩
theorem pickT {n : Int} {t : Tr} {xs : List PyData} {P : PyData → Tr → Prop} (h : TA.TrOk n t) (hn : n ≤ 1000000000) (hx : xs ≠ []) (hl : xs.length < 1000000) (q : ∀ (x : PyData) (t' : Tr), TA.TrOk (n + 1) t' → x ∈ xs → P x t') : ∃ z t2, TA.f__law_pick t [.list xs] = some (z, t2) ∧ P z t2 := by
  obtain ⟨x, t', e, h', hr⟩ := TA.pick h hn hx hl
  exact ⟨_, _, e, q x t' h' hr⟩
theorem ixN_nat {n k : Nat} (h : k < n) (hn : n ≤ 1000000) : ixN n (k : Int) = some k := by
  unfold ixN
  rw [if_pos (by omega), if_pos (by omega), Int.toNat_natCast]
theorem s_putAt {T : Type} {i : Nat} {fk fa : ME T} {ρ : Env} {t : T} {N : Env → T → Prop} {R : PyData → T → Prop} {B C : Env → T → Prop}
    (h : Ef fa ρ t fun d t1 => Ef fk ρ t1 fun z t2 => ∃ (k : Int) (ds : List PyData) (n : Nat), z = .int k ∧ ρ[i]? = some (some (.own (.list ds))) ∧ ixN ds.length k = some n ∧ N (ρ.set i (some (.own (.list (ds.set n d))))) t2) : Es (mPutAt i fk fa) ρ t N R B C := by
  obtain ⟨d, t1, e1, z, t2, e2, k, ds, n, rfl, e3, e4, q⟩ := h
  refine ⟨.nx _, t2, ?_, q⟩
  unfold mPutAt
  rw [e1]
  dsimp only
  rw [e2]
  dsimp only
  rw [e3]
  dsimp only
  rw [e4]
theorem ix_nats {xs : List Nat} {j : Nat} {x : Nat} (h : xs[j]? = some x) : ixD (.tuple (natsD xs)) (.int (j : Int)) = some (.int (x : Int)) := atI_nat (by unfold natsD; rw [List.getElem?_map, h]; rfl)
theorem ixL_nats {xs : List Nat} {j : Nat} {x : Nat} (h : xs[j]? = some x) : ixD (.list (natsD xs)) (.int (j : Int)) = some (.int (x : Int)) := atI_nat (by unfold natsD; rw [List.getElem?_map, h]; rfl)
theorem subN {a b : Nat} (h : b ≤ a) : subD (.int (a : Int)) (.int (b : Int)) = some (.int ((a - b : Nat) : Int)) := by
  show some (PyData.int ((a : Int) - b)) = _
  congr 2
  omega
theorem mach_bn {many : Nat} {M : List (List (Nat × Nat))} (ok : OkM many M) (hm : many ≤ 2) (hl : M.length ≤ 24) : Bn (machD many M) 8000 6 := by
  have hp : ∀ r ∈ M, Bn (rowD r) 300 2 := fun r mr => by
    have hr := ok.row r mr
    have hlen := hr.len
    have h4 : r.length ≤ 4 := by
      rw [hlen]
      exact Nat.pow_le_pow_right (n := 2) (by decide) hm
    have e : BnA (r.map pairD) ((r.map pairD).length * (58 + 2)) 1 := BnA.of_mem fun d m => by
      obtain ⟨p, mp, rfl⟩ := List.mem_map.mp m
      have g1 := hr.goal p mp
      have g2 := hr.bit p mp
      exact (bn_tup (bn_cons (bn_small (i := (p.1 : Int)) (k := 0) (by omega)) (bn_cons (bn_small (i := (p.2 : Int)) (k := 0) (by omega)) bn_nil))).mono (by decide) (by decide)
    rw [List.length_map] at e
    exact (bn_tup e).mono (by omega) (by decide)
  have e : BnA (M.map rowD) ((M.map rowD).length * (300 + 2)) 2 := BnA.of_mem fun d m => by
    obtain ⟨r, mr, rfl⟩ := List.mem_map.mp m
    exact hp r mr
  rw [List.length_map] at e
  exact (bn_tup (bn_cons (bn_small (i := (many : Int)) (k := 3) (by omega)) (bn_cons (bn_tup e) bn_nil))).mono (by omega) (by decide)
theorem bn_natsB {xs : List Nat} {n k : Nat} (h : ∀ x ∈ xs, x < 2 ^ n) (hn : n ≤ 1920) : BnA (natsD xs) (xs.length * 1927) k := by
  have e : BnA (natsD xs) ((natsD xs).length * (1925 + 2)) k := BnA.of_mem fun d m => by
    obtain ⟨x, mx, rfl⟩ := List.mem_map.mp m
    exact bn_big (h x mx) hn
  rw [natsD, List.length_map] at e
  exact e
end Mi.TI
/-! small rules: comprehensions that keep some; facts on lists of small numbers. -/
namespace Mi.TK
open PySem L2 TI
local macro_rules | `(tactic| walk_at "op") => `(tactic| with_reducible first
  | exact o_add | exact o_addI | exact o_sub | exact o_lt | exact o_le | exact o_gt | exact o_ge | exact o_eqI | exact o_neI | exact o_eqS | exact o_neS | exact o_neg | exact o_inv | exact o_and | exact o_or | exact o_xor
  | exact o_int | exact o_intB | exact o_abs | exact o_tupL | exact o_tupT | exact o_lenL | exact o_lenT | exact o_isN | exact o_isNotN)
local macro_rules | `(tactic| walk_at "ix") => `(tactic| ((with_reducible apply o_ixA); (first | apply o_ixL | apply o_ixT | apply o_dixS); focus rfl))
local macro_rules | `(tactic| walk_at "op2") => `(tactic| first
  | ((with_reducible apply o_inA); focus rfl)
  | ((with_reducible apply o_notInA); focus rfl)
  | (with_reducible (first | refine o_addL ?_ | refine o_addT ?_); simp only [List.length_cons, List.length_nil]; decide)
  | ((with_reducible apply o_modA); focus (exact mod_ok (by decide)))
  | ((with_reducible apply o_fdivA); focus (exact o_fdiv (by decide) (by decide))))
local macro_rules | `(tactic| walk_at "call") => `(tactic| fail)
local macro_rules | `(tactic| walk_at "s") => `(tactic| first
  | ((with_reducible apply s_set_env); focus (dsimp only [List.set] <;> rfl))
  | ((with_reducible apply f_callPK); (focus rfl); (focus rfl))
  | with_reducible first
    | refine s_seq ?_ | refine d_f (f_bin ?_) | refine d_f (f_c ?_) | refine s_set ?_ | refine v_rv ?_ | refine s_if ?_ | refine b_test ?_ | refine f_bin ?_ | refine f_c ?_ | refine s_ret ?_ | refine s_skip ?_
    | refine r_cons ?_ | refine r_nil ?_ | refine a_consT ?_ | refine a_nil ?_ | refine k_cons ?_ | refine k_nil ?_ | refine a_consF ?_
    | refine f_call ?_ | refine f_callP ?_ | refine f_keep ?_ | refine f_tup ?_ | refine f_if ?_ | refine f_andV ?_ | refine f_orV ?_ | refine f_notV ?_ | refine f_isi ?_ | refine f_sl ?_ | refine f_un ?_ | refine f_chain ?_
    | refine b_and ?_ | refine b_or ?_ | refine b_not ?_ | refine b_yes ?_
    | refine s_asg ?_ | refine s_app ?_ | refine s_par ?_ | refine s_pars ?_ | refine s_drop ?_ | refine s_retN ?_ | refine s_break ?_ | refine s_cont ?_ | refine s_end ?_ | refine s_setP ?_ | refine s_dropP ?_ | refine s_appP ?_ | refine p_at ?_ | refine p_end ?_ | refine s_par3 ?_ | refine ex_three ?_ | refine i_zip ?_ | refine zz_L ?_ | refine zz_T ?_ | refine l_revL ?_ | refine ex_lst ?_
    | refine l_lst ?_ | refine l_dict ?_ | refine l_listL ?_ | refine o_no ?_ | refine o_part ?_ | refine i_enum ?_ | refine i_range1 ?_ | refine v_new ?_ | refine vs_nil ?_ | refine vs_cons ?_
  | ((with_reducible apply d_v); focus rfl)
  | ((with_reducible apply f_v); focus rfl)
  | ((with_reducible apply s_aug); focus rfl)
  | ((with_reducible apply f_callT); focus rfl)
  | ((with_reducible apply w_b); (focus rfl))
  | ((with_reducible apply i_itemsB); (focus rfl); (focus rfl))
  | with_reducible first | refine d_f ?_ | refine w_f ?_ | refine i_items ?_
  | ((with_reducible refine if_yes ?_ ?_); focus rfl)
  | ((with_reducible refine if_no ?_ ?_); focus rfl)
  | ((with_reducible apply op_ok); focus (first | walk_at "op" | walk_at "ix" | walk_at "op2"))
  | ((with_reducible refine len_ok ?_ ?_); focus (simp only [List.length_cons, List.length_nil]; decide))
  | ((with_reducible refine pk_ok ?_ ?_); focus rfl)
  | ((with_reducible refine lt_ok ?_ ?_); focus (simp only [List.length_append, List.length_cons, List.length_nil]; decide))
  | ((with_reducible refine dict_ok ?_ ?_); focus (exact ⟨rfl, by decide, by decide⟩))
  | ((with_reducible refine par_ok ?_ ?_); focus (refine ⟨?_, rfl⟩; simp only [List.length_cons, List.length_nil]; decide))
  | walk_at "call"
  | with_reducible first | refine ex_bool ?_ | refine ex_int ?_ | refine ex_itL ?_ | refine ex_itT ?_ | refine ex_rng ?_ | refine ex_two ?_ | refine ex_lstL ?_ | refine ex_lstT ?_
  | ((with_reducible apply ex_env); focus rfl)
  | ((with_reducible apply ex_own); focus rfl))
theorem rg_nat (a n : Nat) : rgD (a : Int) ((a + n : Nat) : Int) = natsD ((List.range n).map (a + ·)) := by
  unfold rgD natsD
  rw [show (((a + n : Nat) : Int) - (a : Int)).toNat = n from by omega, List.map_map]
  refine List.map_congr_left fun k _ => ?_
  show PyData.int _ = PyData.int _
  refine congrArg PyData.int ?_
  show (a : Int) + (k : Int) = ((a + k : Nat) : Int)
  omega
theorem l_rg2 {T : Type} {ρ : Env} {t : T} {f g : ME T} {Q : PyData → T → Prop} (h : Ef f ρ t fun d t1 => Ef g ρ t1 fun e t2 => ∃ a n : Nat, d = .int (a : Int) ∧ e = .int ((a + n : Nat) : Int) ∧ a + n ≤ 1000000 ∧ Q (.list (natsD ((List.range n).map (a + ·)))) t2) : Eg (mLRg2 f g) ρ t Q := by
  obtain ⟨d, t1, e1, e, t2, e2, a, n, rfl, rfl, hn, q⟩ := h
  refine ⟨_, t2, ?_, q⟩
  unfold mLRg2
  rw [e1]
  dsimp only
  rw [e2]
  dsimp only
  rw [if_pos ⟨by omega, by omega, by omega, by omega⟩, rg_nat]
end Mi.TK
/-! The program's own: rows in the order in which they are met. -/
namespace Mi.MD
open PySem L2 TA TI LM RS
local macro_rules | `(tactic| walk_at "op") => `(tactic| with_reducible first
  | exact o_add | exact o_addI | exact o_sub | exact o_lt | exact o_le | exact o_gt | exact o_ge | exact o_eqI | exact o_neI | exact o_eqS | exact o_neS | exact o_neg | exact o_inv | exact o_and | exact o_or | exact o_xor
  | exact o_int | exact o_intB | exact o_abs | exact o_tupL | exact o_tupT | exact o_lenL | exact o_lenT | exact o_isN | exact o_isNotN)
local macro_rules | `(tactic| walk_at "ix") => `(tactic| ((with_reducible apply o_ixA); (first | apply o_ixL | apply o_ixT | apply o_dixS); focus rfl))
local macro_rules | `(tactic| walk_at "op2") => `(tactic| first
  | ((with_reducible apply o_inA); focus rfl)
  | ((with_reducible apply o_notInA); focus rfl)
  | (with_reducible (first | refine o_addL ?_ | refine o_addT ?_); simp only [List.length_cons, List.length_nil]; decide)
  | ((with_reducible apply o_modA); focus (exact mod_ok (by decide)))
  | ((with_reducible apply o_fdivA); focus (exact o_fdiv (by decide) (by decide))))
local macro_rules | `(tactic| walk_at "call") => `(tactic| fail)
local macro_rules | `(tactic| walk_at "s") => `(tactic| first
  | ((with_reducible apply s_set_env); focus (dsimp only [List.set] <;> rfl))
  | ((with_reducible apply f_callPK); (focus rfl); (focus rfl))
  | with_reducible first
    | refine s_seq ?_ | refine d_f (f_bin ?_) | refine d_f (f_c ?_) | refine s_set ?_ | refine v_rv ?_ | refine s_if ?_ | refine b_test ?_ | refine f_bin ?_ | refine f_c ?_ | refine s_ret ?_ | refine s_skip ?_
    | refine r_cons ?_ | refine r_nil ?_ | refine a_consT ?_ | refine a_nil ?_ | refine k_cons ?_ | refine k_nil ?_ | refine a_consF ?_
    | refine f_call ?_ | refine f_callP ?_ | refine f_keep ?_ | refine f_tup ?_ | refine f_if ?_ | refine f_andV ?_ | refine f_orV ?_ | refine f_notV ?_ | refine f_isi ?_ | refine f_sl ?_ | refine f_un ?_ | refine f_chain ?_
    | refine b_and ?_ | refine b_or ?_ | refine b_not ?_ | refine b_yes ?_
    | refine s_asg ?_ | refine s_app ?_ | refine s_par ?_ | refine s_pars ?_ | refine s_drop ?_ | refine s_retN ?_ | refine s_break ?_ | refine s_cont ?_ | refine s_end ?_ | refine s_setP ?_ | refine s_dropP ?_ | refine s_appP ?_ | refine p_at ?_ | refine p_end ?_ | refine s_par3 ?_ | refine ex_three ?_ | refine i_zip ?_ | refine zz_L ?_ | refine zz_T ?_ | refine l_revL ?_ | refine ex_lst ?_
    | refine l_lst ?_ | refine l_dict ?_ | refine l_listL ?_ | refine o_no ?_ | refine o_part ?_ | refine i_enum ?_ | refine i_range1 ?_ | refine v_new ?_ | refine vs_nil ?_ | refine vs_cons ?_
  | ((with_reducible apply d_v); focus rfl)
  | ((with_reducible apply f_v); focus rfl)
  | ((with_reducible apply s_aug); focus rfl)
  | ((with_reducible apply f_callT); focus rfl)
  | ((with_reducible apply w_b); (focus rfl))
  | ((with_reducible apply i_itemsB); (focus rfl); (focus rfl))
  | with_reducible first | refine d_f ?_ | refine w_f ?_ | refine i_items ?_
  | ((with_reducible refine if_yes ?_ ?_); focus rfl)
  | ((with_reducible refine if_no ?_ ?_); focus rfl)
  | ((with_reducible apply op_ok); focus (first | walk_at "op" | walk_at "ix" | walk_at "op2"))
  | ((with_reducible refine len_ok ?_ ?_); focus (simp only [List.length_cons, List.length_nil]; decide))
  | ((with_reducible refine pk_ok ?_ ?_); focus rfl)
  | ((with_reducible refine lt_ok ?_ ?_); focus (simp only [List.length_append, List.length_cons, List.length_nil]; decide))
  | ((with_reducible refine dict_ok ?_ ?_); focus (exact ⟨rfl, by decide, by decide⟩))
  | ((with_reducible refine par_ok ?_ ?_); focus (refine ⟨?_, rfl⟩; simp only [List.length_cons, List.length_nil]; decide))
  | walk_at "call"
  | with_reducible first | refine ex_bool ?_ | refine ex_int ?_ | refine ex_itL ?_ | refine ex_itT ?_ | refine ex_rng ?_ | refine ex_two ?_ | refine ex_lstL ?_ | refine ex_lstT ?_
  | ((with_reducible apply ex_env); focus rfl)
  | ((with_reducible apply ex_own); focus rfl))
local macro_rules | `(tactic| walk_at "call") => `(tactic| with_reducible first | refine s_dNew ?_)
abbrev rowsD (X : Mc) : PyData := .tuple (X.map rowD)
theorem l_lc_to {α : Type} (F : α → PyData) (G : α → PyData) {T : Type} {ρ : Env} {t : T} {Q : PyData → T → Prop} {its : Env → T → Option (List PyData × T)} {g : PyData → Env → Option Env} {f : ME T} {vs : List Nat} (as : List α)
    (hi : Eg its ρ t fun ds t1 => ds = as.map F ∧ ds.length ≤ sizeLine ∧ (∀ a ∈ as, ∃ ρ1, g (F a) (wipeR ρ vs) = some ρ1 ∧ Ef f ρ1 t1 fun x t2 => x = G a ∧ t2 = t1) ∧ Q (.list (as.map G)) t1) : Eg (mLc its g mYes f vs) ρ t Q := by
  obtain ⟨ds, t1, e, rfl, hz, hs, q⟩ := hi
  refine l_lc (fun j acc t2 => t2 = t1 ∧ acc = (as.take j).map G) ⟨_, t1, e, hz, ⟨rfl, rfl⟩, ?_, ?_⟩
  · rintro j d acc t2 hj ⟨rfl, rfl⟩
    rw [List.getElem?_map] at hj
    cases ha : as[j]? with
    | none => rw [ha] at hj; cases hj
    | some a =>
      rw [ha] at hj
      cases hj
      obtain ⟨ρ1, e1, ef⟩ := hs a (List.mem_of_getElem? ha)
      refine ⟨ρ1, e1, b_yes (if_yes rfl ?_)⟩
      refine ef.mono ?_
      rintro x t3 ⟨rfl, rfl⟩
      exact ⟨rfl, by rw [take_at ha, List.map_append]; rfl⟩
  · rintro acc t2 ⟨rfl, rfl⟩
    rw [List.length_map, List.take_length]
    exact q
theorem nats_len (xs : List Nat) : (natsD xs).length = xs.length := List.length_map _
theorem fits {n : Nat} (h : n ≤ 1000000) : n ≤ sizeLine := Nat.le_trans h (by decide)
theorem fits' {n : Nat} (h : n < 1000000) : n < sizeLine := Nat.lt_of_lt_of_le h (by decide)
theorem with_states {r : List (Nat × Nat)} (f : Nat → Nat) {nums : PyData} (hl : r.length ≤ 1000) (h : ∀ p ∈ r, ixD nums (.int (p.1 : Int)) = some (.int ((f p.1 : Nat) : Int))) : f__with_states [rowD r, nums] = some (rowD (r.map fun p => (f p.1, p.2))) := by
  refine fun_ok ?_
  refine s_env (ρ' := [some (.bor (rowD r)), some (.bor nums), none, none]) rfl ?_
  unfold m__with_states
  repeat (first | walk_at "s")
  refine l_lc_to pairD (fun p => pairD (f p.1, p.2)) r ?_
  repeat (first | walk_at "s")
  refine ⟨rfl, fits (by rw [List.length_map]; omega), fun p hp => ?_, ?_⟩
  · have e := h p hp
    refine ex_env rfl ?_
    repeat (first | with_reducible (first | refine op_ok e ?_) | walk_at "s")
    exact ⟨rfl, rfl⟩
  · repeat (first | walk_at "s")
    unfold rowD
    rw [List.map_map]
    rfl
/-! numbers -/
def numsE : List Nat → Nat → List (PyData × PyData)
  | [], _ => []
  | s :: r, i => (.int (s : Int), .int (i : Int)) :: numsE r (i + 1)
theorem nums_get (g : Nat) : ∀ (o : List Nat) (i : Nat), dgetK (numsE o i) (.inl (g : Int)) = if g ∈ o then some (.int ((i + pos o g : Nat) : Int)) else none
  | [], i => rfl
  | s :: r, i => by
    show (if keyD (.int (s : Int)) = some (Sum.inl (g : Int)) then some (PyData.int (i : Int)) else dgetK (numsE r (i + 1)) (.inl (g : Int))) = _
    have hk : (keyD (.int (s : Int)) = some (Sum.inl (g : Int))) ↔ s = g := by
      constructor
      · intro h
        have := Sum.inl.inj (Option.some.inj h)
        omega
      · rintro rfl
        rfl
    by_cases e : s = g
    · rw [if_pos (hk.mpr e), if_pos (by rw [e]; exact List.mem_cons_self)]
      unfold pos
      rw [if_pos e]
      rfl
    · rw [if_neg (fun h => e (hk.mp h)), nums_get g r (i + 1)]
      by_cases m : g ∈ r
      · rw [if_pos m, if_pos (List.mem_cons_of_mem _ m)]
        show _ = some (PyData.int ((i + (if s = g then 0 else pos r g + 1) : Nat) : Int))
        rw [if_neg e]
        congr 3
        omega
      · rw [if_neg m, if_neg (by
          intro h
          rcases List.mem_cons.mp h with q | q
          · exact e q.symm
          · exact m q)]
theorem nums_snoc (g : Nat) : ∀ (o : List Nat) (i : Nat), numsE (o ++ [g]) i = numsE o i ++ [(.int (g : Int), .int ((i + o.length : Nat) : Int))]
  | [], i => rfl
  | s :: r, i => by
    show (_ :: numsE (r ++ [g]) (i + 1)) = _
    rw [nums_snoc g r (i + 1), List.length_cons, show i + 1 + r.length = i + (r.length + 1) by omega]
    rfl
theorem nums_len : ∀ (o : List Nat) (i : Nat), (numsE o i).length = o.length
  | [], _ => rfl
  | s :: r, i => by
    show (numsE r (i + 1)).length + 1 = _
    rw [nums_len r, List.length_cons]
abbrev idN : Nat → Nat := fun s => s
theorem idN_map (o : List Nat) : o.map idN = o := List.map_id' o
theorem meet_id (o : List Nat) (g : Nat) : meet idN o g = if g ∈ o then o else o ++ [g] := by
  unfold meet
  rw [idN_map]
theorem ordS_snoc {κ : Type} [DecidableEq κ] (c : Nat → κ) (o gs : List Nat) (g : Nat) : ordS c o (gs ++ [g]) = meet c (ordS c o gs) g := by
  unfold ordS
  rw [List.foldl_append]
  rfl
theorem in_order {many : Nat} {X : Mc} {d : PyData} (ok : OkM many X) (hX : X.length ≤ 60) (hm : many ≤ 9) (hd : d = .tuple (X.map rowD) ∨ d = .list (X.map rowD)) : f__in_order [d] = some (rowsD (quo idN X)) := by
  have ixR : ∀ s : Nat, s < X.length → ixD d (.int (s : Int)) = some (.tuple ((X.getD s []).map pairD)) := fun s hs => by
    have e : X[s]? = some (X.getD s []) := by rw [List.getD_eq_getElem?_getD, List.getElem?_eq_getElem hs]; rfl
    rcases hd with rfl | rfl
    · exact atI_nat (by rw [List.getElem?_map, e]; rfl)
    · exact o_ixL (atI_nat (by rw [List.getElem?_map, e]; rfl))
  have rowL : ∀ s : Nat, s < X.length → (X.getD s []).length ≤ 512 := fun s hs => by
    have := (ok.row _ (List.getElem_mem hs)).len
    rw [List.getD_eq_getElem?_getD, List.getElem?_eq_getElem hs]
    show X[s].length ≤ 512
    rw [this]
    exact Nat.pow_le_pow_right (n := 2) (by decide) hm
  refine fun_ok ?_
  refine s_env (ρ' := [some (.bor d), none, none, none, none, none, none, none]) rfl ?_
  unfold m__in_order
  repeat (first | walk_at "s")
  refine s_while (fun n ρ _ => ∃ (k : Nat) (x4 x5 x6 x7 : Option Val), n + k = 100 ∧ k ≤ (ordN idN X k).length ∧ ρ = [some (.bor d), some (.own (.list (natsD (ordN idN X k)))), some (.own (.dict (numsE (ordN idN X k) 0))), some (.fro (.int (k : Int))), x4, x5, x6, x7]) ⟨0, _, _, _, _, rfl, Nat.zero_le _, rfl⟩ ?_
  rintro n ρ t ⟨k, x4, x5, x6, x7, hn, hk, rfl⟩
  have oo := ord_ok (c := idN) ok k
  have ol := ord_len (c := idN) ok k
  repeat (first | walk_at "s")
  rw [nats_len]
  refine if_both (fun hlt => ?_) (fun hlt => ?_)
  · have hlt : k < (ordN idN X k).length := by
      have := of_decide_eq_true hlt
      omega
    cases n with
    | zero => omega
    | succ n =>
      refine ⟨n, rfl, ?_⟩
      obtain ⟨s, hs⟩ : ∃ s, (ordN idN X k)[k]? = some s := ⟨_, List.getElem?_eq_getElem hlt⟩
      have hsX : s < X.length := oo.lt s (List.mem_of_getElem? hs)
      have e1 : ixD (.list (natsD (ordN idN X k))) (.int (k : Int)) = some (.int (s : Int)) := ixL_nats hs
      have e2 := ixR s hsX
      have enext := ordN_some hs
      have hrl := rowL s hsX
      have hgl := goals_lt ok (s := s)
      generalize X.getD s [] = row at e2 enext hrl hgl
      have nextN : (ordN idN X (k + 1)).length ≤ X.length := ord_len ok (k + 1)
      obtain ⟨lx, elx⟩ := ordN_pre (c := idN) (X := X) k
      have nextL : (ordN idN X k).length ≤ (ordN idN X (k + 1)).length := by
        rw [elx, List.length_append]
        omega
      repeat (first | with_reducible (first | refine op_ok e1 ?_ | refine op_ok e2 ?_) | walk_at "s")
      refine s_for (fun j ρ _ => ∃ (x5 x6 : Option Val), ρ = [some (.bor d), some (.own (.list (natsD (ordS idN (ordN idN X k) (goals (row.take j)))))), some (.own (.dict (numsE (ordS idN (ordN idN X k) (goals (row.take j))) 0))), some (.fro (.int (k : Int))), some (.fro (.tuple (row.map pairD))), x5, x6, x7]) ?_
      repeat (first | walk_at "s")
      refine ⟨⟨_, _, rfl⟩, ?_, ?_⟩
      · rintro j z ρ ⟨⟩ hj ⟨x5, x6, rfl⟩
        rw [List.getElem?_map] at hj
        cases hrj : row[j]? with
        | none => rw [hrj] at hj; cases hj
        | some p =>
          rw [hrj] at hj
          cases hj
          have hst : ordS idN (ordN idN X k) (goals (row.take (j + 1))) = meet idN (ordS idN (ordN idN X k) (goals (row.take j))) p.1 := by
            unfold goals
            rw [take_at hrj, List.map_append]
            exact ordS_snoc idN _ _ _
          have hsub := (oo.all (gs := goals (row.take j)) fun g mg => hgl g (by
            obtain ⟨q, mq, rfl⟩ := List.mem_map.mp mg
            exact List.mem_map.mpr ⟨q, List.mem_of_mem_take mq, rfl⟩)).1
          have hlo := L2.nat_nodup_len _ (List.range X.length) (LM.nodup_of_map hsub.nd) fun x m => List.mem_range.mpr (hsub.lt x m)
          rw [List.length_range] at hlo
          rw [hst, meet_id]
          generalize ordS idN (ordN idN X k) (goals (row.take j)) = o at hlo
          have en : notInDct (.int (p.1 : Int)) (.dict (numsE o 0)) = some (.bool (!decide (p.1 ∈ o))) := by
            show some (PyData.bool (!(dgetK (numsE o 0) (.inl (p.1 : Int))).isSome)) = _
            rw [nums_get]
            by_cases m : p.1 ∈ o
            · rw [if_pos m, decide_eq_true m]; rfl
            · rw [if_neg m, decide_eq_false m]; rfl
          refine ex_env rfl ?_
          repeat (first | with_reducible (first | refine op_ok en ?_) | walk_at "s")
          refine if_both (fun hb => ?_) (fun hb => ?_)
          · have m : p.1 ∉ o := by
              intro m
              rw [decide_eq_true m] at hb
              cases hb
            rw [if_neg m]
            repeat (first | walk_at "s")
            refine ⟨numsE o 0, .inl (p.1 : Int), rfl, rfl, ?_, fits' (by rw [nums_len]; omega), ?_⟩
            · rw [nums_get, if_neg m]
              rfl
            repeat (first | walk_at "s")
            refine ⟨fits' (by rw [nats_len]; omega), ?_⟩
            repeat (first | walk_at "s")
            rw [natsD_snoc, nums_snoc, nats_len, Nat.zero_add]
            exact ⟨_, _, rfl⟩
          · have m : p.1 ∈ o := by
              rcases Classical.em (p.1 ∈ o) with m | m
              · exact m
              · rw [decide_eq_false m] at hb
                cases hb
            rw [if_pos m]
            repeat (first | walk_at "s")
            exact ⟨_, _, rfl⟩
      · rintro ρ ⟨⟩ ⟨x5, x6, rfl⟩
        rw [List.length_map, List.take_length]
        repeat (first | walk_at "s")
        refine ⟨k + 1, some (.fro (.tuple (row.map pairD))), x5, x6, x7, by omega, by omega, ?_⟩
        rw [enext]
        rfl
  · have hge : (ordN idN X k).length ≤ k := by
      have := of_decide_eq_false hlt
      omega
    have eF : ordN idN X k = ordF idN X := (ord_stop hge X.length (by omega)).symm
    refine ⟨by omega, ?_⟩
    rw [eF] at oo ol ⊢
    repeat (first | ((with_reducible apply l_lcO); focus rfl) | walk_at "s")
    refine l_lc_to (fun s : Nat => PyData.int (s : Int)) (fun s => rowD ((X.getD s []).map fun p => (pos (ordF idN X) p.1, p.2))) (ordF idN X) ?_
    refine i_const ?_
    refine ⟨rfl, fits (by rw [nats_len]; omega), fun s hs => ?_, ?_⟩
    · obtain ⟨i, hi⟩ := List.getElem?_of_mem hs
      have cl := closed ok hi
      have hsX := oo.lt s hs
      have e2 := ixR s hsX
      have hrl := rowL s hsX
      have ew : f__with_states [.tuple ((X.getD s []).map pairD), .dict (numsE (ordF idN X) 0)] = _ := with_states (r := X.getD s []) (pos (ordF idN X)) (nums := .dict (numsE (ordF idN X) 0)) (by omega) (fun p hp => by
        have hm := cl p.1 (List.mem_map.mpr ⟨p, hp, rfl⟩)
        rw [idN_map] at hm
        show dgetK (numsE (ordF idN X) 0) (.inl (p.1 : Int)) = _
        rw [nums_get, if_pos hm, Nat.zero_add])
      refine ex_env rfl ?_
      repeat (first | with_reducible (first | refine op_ok e2 ?_ | refine op_ok ew ?_) | walk_at "s")
      exact ⟨rfl, rfl⟩
    · repeat (first | walk_at "s")
      show PyData.tuple _ = PyData.tuple ((quo idN X).map rowD)
      unfold quo
      rw [idN_map, List.map_map]
      rfl
end Mi.MD
/-! The program's own: classes, one row of each, the least machine. -/
namespace Mi.MD
open PySem L2 TA TI LM RS
local macro_rules | `(tactic| walk_at "op") => `(tactic| with_reducible first
  | exact o_add | exact o_addI | exact o_sub | exact o_lt | exact o_le | exact o_gt | exact o_ge | exact o_eqI | exact o_neI | exact o_eqS | exact o_neS | exact o_neg | exact o_inv | exact o_and | exact o_or | exact o_xor
  | exact o_int | exact o_intB | exact o_abs | exact o_tupL | exact o_tupT | exact o_lenL | exact o_lenT | exact o_isN | exact o_isNotN)
local macro_rules | `(tactic| walk_at "ix") => `(tactic| ((with_reducible apply o_ixA); (first | apply o_ixL | apply o_ixT | apply o_dixS); focus rfl))
local macro_rules | `(tactic| walk_at "op2") => `(tactic| first
  | ((with_reducible apply o_inA); focus rfl)
  | ((with_reducible apply o_notInA); focus rfl)
  | (with_reducible (first | refine o_addL ?_ | refine o_addT ?_); simp only [List.length_cons, List.length_nil]; decide)
  | ((with_reducible apply o_modA); focus (exact mod_ok (by decide)))
  | ((with_reducible apply o_fdivA); focus (exact o_fdiv (by decide) (by decide))))
local macro_rules | `(tactic| walk_at "call") => `(tactic| fail)
local macro_rules | `(tactic| walk_at "s") => `(tactic| first
  | ((with_reducible apply s_set_env); focus (dsimp only [List.set] <;> rfl))
  | ((with_reducible apply f_callPK); (focus rfl); (focus rfl))
  | with_reducible first
    | refine s_seq ?_ | refine d_f (f_bin ?_) | refine d_f (f_c ?_) | refine s_set ?_ | refine v_rv ?_ | refine s_if ?_ | refine b_test ?_ | refine f_bin ?_ | refine f_c ?_ | refine s_ret ?_ | refine s_skip ?_
    | refine r_cons ?_ | refine r_nil ?_ | refine a_consT ?_ | refine a_nil ?_ | refine k_cons ?_ | refine k_nil ?_ | refine a_consF ?_
    | refine f_call ?_ | refine f_callP ?_ | refine f_keep ?_ | refine f_tup ?_ | refine f_if ?_ | refine f_andV ?_ | refine f_orV ?_ | refine f_notV ?_ | refine f_isi ?_ | refine f_sl ?_ | refine f_un ?_ | refine f_chain ?_
    | refine b_and ?_ | refine b_or ?_ | refine b_not ?_ | refine b_yes ?_
    | refine s_asg ?_ | refine s_app ?_ | refine s_par ?_ | refine s_pars ?_ | refine s_drop ?_ | refine s_retN ?_ | refine s_break ?_ | refine s_cont ?_ | refine s_end ?_ | refine s_setP ?_ | refine s_dropP ?_ | refine s_appP ?_ | refine p_at ?_ | refine p_end ?_ | refine s_par3 ?_ | refine ex_three ?_ | refine i_zip ?_ | refine zz_L ?_ | refine zz_T ?_ | refine l_revL ?_ | refine ex_lst ?_
    | refine l_lst ?_ | refine l_dict ?_ | refine l_listL ?_ | refine o_no ?_ | refine o_part ?_ | refine i_enum ?_ | refine i_range1 ?_ | refine v_new ?_ | refine vs_nil ?_ | refine vs_cons ?_
  | ((with_reducible apply d_v); focus rfl)
  | ((with_reducible apply f_v); focus rfl)
  | ((with_reducible apply s_aug); focus rfl)
  | ((with_reducible apply f_callT); focus rfl)
  | ((with_reducible apply w_b); (focus rfl))
  | ((with_reducible apply i_itemsB); (focus rfl); (focus rfl))
  | with_reducible first | refine d_f ?_ | refine w_f ?_ | refine i_items ?_
  | ((with_reducible refine if_yes ?_ ?_); focus rfl)
  | ((with_reducible refine if_no ?_ ?_); focus rfl)
  | ((with_reducible apply op_ok); focus (first | walk_at "op" | walk_at "ix" | walk_at "op2"))
  | ((with_reducible refine len_ok ?_ ?_); focus (simp only [List.length_cons, List.length_nil]; decide))
  | ((with_reducible refine pk_ok ?_ ?_); focus rfl)
  | ((with_reducible refine lt_ok ?_ ?_); focus (simp only [List.length_append, List.length_cons, List.length_nil]; decide))
  | ((with_reducible refine dict_ok ?_ ?_); focus (exact ⟨rfl, by decide, by decide⟩))
  | ((with_reducible refine par_ok ?_ ?_); focus (refine ⟨?_, rfl⟩; simp only [List.length_cons, List.length_nil]; decide))
  | walk_at "call"
  | with_reducible first | refine ex_bool ?_ | refine ex_int ?_ | refine ex_itL ?_ | refine ex_itT ?_ | refine ex_rng ?_ | refine ex_two ?_ | refine ex_lstL ?_ | refine ex_lstT ?_
  | ((with_reducible apply ex_env); focus rfl)
  | ((with_reducible apply ex_own); focus rfl))
/-! ### keys that are rows -/
def nkR (r : List (Nat × Nat)) : NestedKey := .tup (r.map fun p => .tup [.num (p.1 : Int), .num (p.2 : Int)])
theorem nks_row : ∀ r : List (Nat × Nat), nksOf (r.map pairD) = some (r.map fun p => NestedKey.tup [.num (p.1 : Int), .num (p.2 : Int)])
  | [] => rfl
  | p :: r => by
    show (nkOf (pairD p)).bind (fun k => (nksOf (r.map pairD)).map (k :: ·)) = _
    rw [nks_row r]
    rfl
theorem nk_depth : ∀ r : List (Nat × Nat), NestedKey.depthAll (r.map fun p => NestedKey.tup [.num (p.1 : Int), .num (p.2 : Int)]) ≤ 3
  | [] => by simp [NestedKey.depthAll]
  | p :: r => by
    have := nk_depth r
    rw [List.map_cons, NestedKey.depthAll]
    refine Nat.max_le.mpr ⟨?_, this⟩
    simp [NestedKey.depth, NestedKey.depthAll]
theorem nk_row (r : List (Nat × Nat)) : nk8 (rowD r) = some (nkR r) := by
  show (nkOf (.tuple (r.map pairD))).bind _ = _
  have e : nkOf (.tuple (r.map pairD)) = some (nkR r) := by
    show (nksOf (r.map pairD)).map NestedKey.tup = _
    rw [nks_row]
    rfl
  rw [e]
  show (if (nkR r).depth ≤ 8 then some (nkR r) else none) = _
  rw [if_pos]
  unfold nkR
  rw [NestedKey.depth]
  have := nk_depth r
  omega
theorem nkm_inj : ∀ {a b : List (Nat × Nat)}, (a.map fun p => NestedKey.tup [.num (p.1 : Int), .num (p.2 : Int)]) = (b.map fun p => NestedKey.tup [.num (p.1 : Int), .num (p.2 : Int)]) → a = b
  | [], [], _ => rfl
  | [], _ :: _, h => by cases h
  | _ :: _, [], h => by cases h
  | p :: r, q :: s, h => by
    rw [List.map_cons, List.map_cons] at h
    obtain ⟨h1, h2⟩ := List.cons.inj h
    have h1 := NestedKey.tup.inj h1
    obtain ⟨e1, h3⟩ := List.cons.inj h1
    obtain ⟨e2, _⟩ := List.cons.inj h3
    have e1 := NestedKey.num.inj e1
    have e2 := NestedKey.num.inj e2
    rw [nkm_inj h2, show p = q from Prod.ext (by omega) (by omega)]
theorem nkR_inj {a b : List (Nat × Nat)} (h : nkR a = nkR b) : a = b := nkm_inj (NestedKey.tup.inj h)
theorem mulD_at {xs : List PyData} {i : Int} (h : -(2 ^ 63) ≤ i ∧ i < 2 ^ 63 ∧ xs.length * i.toNat ≤ sizeLine) : mulD (.list xs) (.int i) = some (.list (List.replicate i.toNat xs).flatten) := if_pos h
theorem mulD_rep {xs : List PyData} {k : Nat} (h : xs.length * k ≤ 1000000) (hk : k ≤ 1000000) : mulD (.list xs) (.int (k : Int)) = some (.list (List.replicate k xs).flatten) := by
  have := mulD_at (xs := xs) (i := (k : Int)) ⟨by omega, by omega, by rw [Int.toNat_natCast]; exact fits h⟩
  rwa [Int.toNat_natCast] at this
def kdsE : List (List (Nat × Nat)) → Nat → List (NestedKey × PyData)
  | [], _ => []
  | k :: r, i => (nkR k, .int (i : Int)) :: kdsE r (i + 1)
theorem kds_get (k : List (Nat × Nat)) : ∀ (o : List (List (Nat × Nat))) (i : Nat), kget (kdsE o i) (nkR k) = if k ∈ o then some (.int ((i + pos o k : Nat) : Int)) else none
  | [], i => rfl
  | s :: r, i => by
    by_cases e : s = k
    · subst e
      rw [if_pos List.mem_cons_self]
      unfold kget kdsE pos
      rw [List.find?_cons_of_pos (by simp), if_pos rfl]
      rfl
    · have ne : nkR s ≠ nkR k := fun h => e (nkR_inj h)
      have e1 : kget (kdsE (s :: r) i) (nkR k) = kget (kdsE r (i + 1)) (nkR k) := by
        unfold kget
        show (List.find? _ ((nkR s, _) :: kdsE r (i + 1))).map _ = _
        rw [List.find?_cons_of_neg (by simpa using ne)]
      rw [e1, kds_get k r (i + 1)]
      by_cases m : k ∈ r
      · rw [if_pos m, if_pos (List.mem_cons_of_mem _ m)]
        show _ = some (PyData.int ((i + (if s = k then 0 else pos r k + 1) : Nat) : Int))
        rw [if_neg e]
        congr 3
        omega
      · rw [if_neg m, if_neg (by
          intro h
          rcases List.mem_cons.mp h with q | q
          · exact e q.symm
          · exact m q)]
theorem kds_snoc (g : List (Nat × Nat)) : ∀ (o : List (List (Nat × Nat))) (i : Nat), kdsE (o ++ [g]) i = kdsE o i ++ [(nkR g, .int ((i + o.length : Nat) : Int))]
  | [], i => rfl
  | s :: r, i => by
    show (_ :: kdsE (r ++ [g]) (i + 1)) = _
    rw [kds_snoc g r (i + 1), List.length_cons, show i + 1 + r.length = i + (r.length + 1) by omega]
    rfl
theorem kds_len : ∀ (o : List (List (Nat × Nat))) (i : Nat), (kdsE o i).length = o.length
  | [], _ => rfl
  | s :: r, i => by
    show (kdsE r (i + 1)).length + 1 = _
    rw [kds_len r, List.length_cons]
/-! ### == of lists of numbers -/
theorem eqv_nats : ∀ a b : List Nat, PyData.eqvAll (natsD a) (natsD b) = decide (a = b)
  | [], [] => rfl
  | [], y :: b => by rw [decide_eq_false (by simp)]; rfl
  | x :: a, [] => by rw [decide_eq_false (by simp)]; rfl
  | x :: a, y :: b => by
    show (PyData.eqv (.int (x : Int)) (.int (y : Int)) && PyData.eqvAll (natsD a) (natsD b)) = _
    rw [eqv_nats a b]
    have : PyData.eqv (.int (x : Int)) (.int (y : Int)) = decide (x = y) := by
      unfold PyData.eqv
      by_cases e : x = y
      · subst e; simp
      · rw [decide_eq_false e]
        exact beq_eq_false_iff_ne.mpr (by omega)
    rw [this]
    by_cases e : x = y
    · subst e
      simp
    · simp [e]
theorem nats_all : ∀ xs : List Nat, PyData.canLayAll0 (natsD xs) = true ∧ PyData.depthAll (natsD xs) = 0
  | [] => ⟨rfl, rfl⟩
  | x :: r => by
    obtain ⟨h1, h2⟩ := nats_all r
    constructor
    · show PyData.canLayAll0 (PyData.int (x : Int) :: natsD r) = true
      rw [PyData.canLayAll0, h1]
      rfl
    · show PyData.depthAll (PyData.int (x : Int) :: natsD r) = 0
      rw [PyData.depthAll, h2]
      rfl
theorem eq_natsL {a b : List Nat} (hl : a.length = b.length) : eqD (.list (natsD a)) (.list (natsD b)) = some (.bool (decide (a = b))) := by
  have sh : ∀ xs : List Nat, SeqAt.shaped (.list (natsD xs)) = true := fun xs => by
    obtain ⟨h1, h2⟩ := nats_all xs
    have dd : (PyData.list (natsD xs)).depth ≤ 64 := by
      rw [PyData.depth, h2]
      decide
    exact Bool.and_eq_true_iff.mpr ⟨h1, decide_eq_true dd⟩
  have hc : cmpX (.list (natsD a)) (.list (natsD b)) = none := if_pos (by rw [nats_len, nats_len, hl])
  unfold eqD
  rw [hc]
  refine (if_pos ⟨sh a, sh b⟩).trans ?_
  have : PyData.eqv (.list (natsD a)) (.list (natsD b)) = PyData.eqvAll (natsD a) (natsD b) := by
    unfold PyData.eqv
    rfl
  rw [this, eqv_nats]
theorem rep_zero (n : Nat) : (List.replicate n [PyData.int 0]).flatten = natsD (List.replicate n 0) := by
  rw [List.flatten_replicate_singleton]
  unfold natsD
  rw [List.map_replicate]
  rfl
theorem s_fz {T : Type} {i : Nat} {f : MS T} {d : PyData} {ρ : Env} {t : T} {N : Env → T → Prop} {R : PyData → T → Prop} {B C : Env → T → Prop} (h : ρ[i]? = some (some (.own d))) (q : Es f (ρ.set i (some (.fro d))) t N R B C) : Es (mFz i f) ρ t N R B C := by
  obtain ⟨r, t', e, q⟩ := q
  refine ⟨r, t', ?_, q⟩
  unfold mFz
  rw [h]
  exact e
section
variable {κ : Type} [DecidableEq κ]
theorem numb_app {ks : List κ} {k : κ} : numb (ks ++ [k]) = numb ks ++ [pos (first (ks ++ [k])) k] := by
  obtain ⟨l, e⟩ := first_app ks [k]
  show (ks ++ [k]).map (pos (first (ks ++ [k]))) = _
  rw [List.map_append]
  congr 1
  refine List.map_congr_left fun x m => ?_
  rw [e, pos_app, if_pos (first_mem.mpr m)]
theorem numb_old {ks : List κ} {k : κ} (m : k ∈ first ks) : first (ks ++ [k]) = first ks ∧ numb (ks ++ [k]) = numb ks ++ [pos (first ks) k] := by
  have e : first (ks ++ [k]) = first ks := by rw [first_snoc]; unfold addK; rw [if_pos m]
  exact ⟨e, by rw [numb_app, e]⟩
theorem numb_new {ks : List κ} {k : κ} (m : k ∉ first ks) : first (ks ++ [k]) = first ks ++ [k] ∧ numb (ks ++ [k]) = numb ks ++ [(first ks).length] := by
  have e : first (ks ++ [k]) = first ks ++ [k] := by rw [first_snoc]; unfold addK; rw [if_neg m]
  refine ⟨e, ?_⟩
  rw [numb_app, e, pos_app, if_neg m]
  unfold pos
  rw [if_pos rfl]
  rfl
end
theorem classes {many : Nat} {X : Mc} (ok : OkM many X) (hX : X.length ≤ 24) (hm : many ≤ 9) : ∃ r, cl X (r + 1) = cl X r ∧ f__classes [rowsD X] = some (.list (natsD (cl X r))) := by
  have hrow : ∀ row ∈ X, row.length ≤ 512 ∧ ∀ p ∈ row, p.1 < X.length := fun row mr => by
    have := ok.row row mr
    refine ⟨?_, this.goal⟩
    rw [this.len]
    exact Nat.pow_le_pow_right (n := 2) (by decide) hm
  have key := fun_okP (n := 5) (bs := [true]) (body := m__classes) (ds := [rowsD X]) (P := fun d => ∃ r, cl X (r + 1) = cl X r ∧ d = .list (natsD (cl X r))) ?_
  · obtain ⟨d, e, r, h, rfl⟩ := key
    exact ⟨r, h, e⟩
  refine s_env (ρ' := [some (.bor (rowsD X)), none, none, none, none]) rfl ?_
  unfold m__classes
  have e0 : mulD (.list [.int 0]) (.int ((X.map rowD).length : Int)) = some (.list (natsD (cl X 0))) := by
    rw [List.length_map, mulD_rep (by rw [List.length_singleton]; omega) (by omega), rep_zero]
    rfl
  repeat (first | with_reducible (first | refine op_ok e0 ?_) | walk_at "s")
  refine s_while (fun n ρ _ => ∃ (r : Nat) (x2 x3 x4 : Option Val), alike X.length (fun s => (cl X r).getD s 0) < n ∧ ρ = [some (.bor (rowsD X)), some (.fro (.list (natsD (cl X r)))), x2, x3, x4]) ⟨0, none, none, none, ?_, rfl⟩ ?_
  · have := alike_le X.length (fun s => (cl X 0).getD s 0)
    have : X.length * X.length ≤ 24 * 24 := Nat.mul_le_mul hX hX
    omega
  rintro n ρ t ⟨r, x2, x3, x4, hn, rfl⟩
  cases n with
  | zero => omega
  | succ n =>
    repeat (first | walk_at "s")
    refine ⟨n, rfl, ?_⟩
    have hcl := cl_len X r
    repeat (first | with_reducible (first | refine v_kNew0 ?_) | walk_at "s")
    obtain ⟨K, hK⟩ : ∃ K, K = X.map (sig (cl X r)) := ⟨_, rfl⟩
    have hKl : K.length = X.length := by rw [hK, List.length_map]
    refine s_for (fun j ρ _ => ∃ x4 : Option Val, ρ = [some (.bor (rowsD X)), some (.fro (.list (natsD (cl X r)))), some (.kd (kdsE (first (K.take j)) 0)), some (.own (.list (natsD (numb (K.take j))))), x4]) ?_
    repeat (first | walk_at "s")
    refine ⟨⟨_, rfl⟩, ?_, ?_⟩
    · rintro j d ρ ⟨⟩ hj ⟨x4, rfl⟩
      rw [List.getElem?_map] at hj
      cases hrj : X[j]? with
      | none => rw [hrj] at hj; cases hj
      | some row =>
        rw [hrj] at hj
        cases hj
        obtain ⟨hl, hg⟩ := hrow row (List.mem_of_getElem? hrj)
        have hjl := (List.getElem?_eq_some_iff.mp hrj).1
        have kj : K[j]? = some (sig (cl X r) row) := by rw [hK, List.getElem?_map, hrj]; rfl
        have tk : K.take (j + 1) = K.take j ++ [sig (cl X r) row] := by rw [List.take_add_one, kj]; rfl
        have ew : f__with_states [rowD row, .list (natsD (cl X r))] = some (rowD (sig (cl X r) row)) := with_states (fun g => (cl X r).getD g 0) (by omega) fun p hp => by
          have := hg p hp
          refine ixL_nats ?_
          rw [List.getD_eq_getElem?_getD, List.getElem?_eq_getElem (by omega)]
          rfl
        have hfl := first_len (K.take j)
        rw [List.length_take] at hfl
        have hnl : (numb (K.take j)).length = j := by rw [numb_len, List.length_take]; omega
        refine ex_env rfl ?_
        refine s_appK (k_setd ?_)
        repeat (first | with_reducible (first | refine op_ok ew ?_) | walk_at "s")
        refine f_kLen ⟨_, rfl, fits (by rw [kds_len]; omega), ?_⟩
        refine ⟨_, nkR (sig (cl X r) row), rfl, nk_row _, fits (by rw [kds_len]; omega), fun x hx => ?_, fun hx => ?_⟩
        · refine ⟨_, rfl, fits' (by rw [nats_len]; omega), some (.fro (rowD row)), ?_⟩
          rw [kds_get] at hx
          by_cases m : sig (cl X r) row ∈ first (K.take j)
          · rw [if_pos m, Nat.zero_add] at hx
            cases hx
            obtain ⟨f1, f2⟩ := numb_old m
            rw [tk, f1, f2, ← natsD_snoc]
            rfl
          · rw [if_neg m] at hx
            cases hx
        · refine ⟨_, rfl, fits' (by rw [nats_len]; omega), some (.fro (rowD row)), ?_⟩
          rw [kds_get] at hx
          have m : sig (cl X r) row ∉ first (K.take j) := by
            intro m
            rw [if_pos m] at hx
            cases hx
          obtain ⟨f1, f2⟩ := numb_new m
          rw [tk, f1, f2, ← natsD_snoc, kds_snoc, kds_len, Nat.zero_add]
          rfl
    · rintro ρ ⟨⟩ ⟨x4, rfl⟩
      rw [List.length_map, show K.take X.length = K by rw [← hKl, List.take_length]]
      have hfl := first_len K
      have hnx : numb K = cl X (r + 1) := by rw [hK]; rfl
      have e1 : gtD (.int (((kdsE (first K) 0).length : Nat) : Int)) (.int 24) = some (.bool false) := by
        show some (PyData.bool (decide ((24 : Int) < _))) = _
        rw [kds_len, decide_eq_false (by omega)]
      have e2 : eqD (.list (natsD (numb K))) (.list (natsD (cl X r))) = some (.bool (decide (cl X (r + 1) = cl X r))) := by
        rw [eq_natsL (by rw [numb_len, cl_len]; exact hKl), hnx]
      refine s_seq (s_if (b_test (f_bin (d_f (f_kLen ⟨_, rfl, fits (by rw [kds_len]; omega), ?_⟩)))))
      repeat (first | with_reducible (first | refine op_ok e1 ?_ | refine op_ok e2 ?_) | walk_at "s")
      refine if_both (fun hb => ?_) (fun hb => ?_)
      · repeat (first | walk_at "s")
        exact ⟨r, of_decide_eq_true hb, rfl⟩
      · have ne := of_decide_eq_false hb
        have hlt := cl_less ok ne
        repeat (first | walk_at "s")
        refine s_fz rfl ?_
        repeat (first | walk_at "s")
        refine ⟨r + 1, some (.kd (kdsE (first K) 0)), some (.fro (.list (natsD (cl X (r + 1))))), x4, by omega, ?_⟩
        rw [← hnx]
        rfl
theorem merged {many : Nat} {X : Mc} (ok : OkM many X) (hX : X.length ≤ 60) (hm : many ≤ 9) {r : Nat} (h : cl X (r + 1) = cl X r) : f__merged [rowsD X, .list (natsD (cl X r))] = some (.list ((mer X r).map rowD)) := by
  refine fun_ok ?_
  refine s_env (ρ' := [some (.bor (rowsD X)), some (.bor (.list (natsD (cl X r)))), none, none, none]) rfl ?_
  unfold m__merged
  have hcl := cl_len X r
  obtain ⟨K, hK⟩ : ∃ K, K = X.map (sig (cl X r)) := ⟨_, rfl⟩
  have hKl : K.length = X.length := by rw [hK, List.length_map]
  repeat (first | walk_at "s")
  refine s_for (fun j ρ _ => ∃ x3 x4 : Option Val, ρ = [some (.bor (rowsD X)), some (.bor (.list (natsD (cl X r)))), some (.own (.list ((first (K.take j)).map rowD))), x3, x4]) ?_
  repeat (first | with_reducible (first | refine i_zip3 ?_ | refine zz3_TL ?_) | walk_at "s")
  refine ⟨⟨_, _, rfl⟩, ?_, ?_⟩
  · rintro j d ρ ⟨⟩ hj ⟨x3, x4, rfl⟩
    obtain ⟨x, y, hx, hy, rfl⟩ := zipL_at hj
    rw [List.getElem?_map] at hx
    cases hrj : X[j]? with
    | none => rw [hrj] at hx; cases hx
    | some row =>
      rw [hrj] at hx
      cases hx
      have hjl := (List.getElem?_eq_some_iff.mp hrj).1
      have hrow := ok.row row (List.mem_of_getElem? hrj)
      have hrl : row.length ≤ 512 := by
        rw [hrow.len]
        exact Nat.pow_le_pow_right (n := 2) (by decide) hm
      have kj : K[j]? = some (sig (cl X r) row) := by rw [hK, List.getElem?_map, hrj]; rfl
      have tk : K.take (j + 1) = K.take j ++ [sig (cl X r) row] := by rw [List.take_add_one, kj]; rfl
      have ey : y = .int ((pos (first K) (sig (cl X r) row) : Nat) : Int) := by
        have := cls_at h hjl
        have er : X[j] = row := by
          rw [List.getElem?_eq_getElem hjl] at hrj
          exact Option.some.inj hrj
        rw [er] at this
        have hc : (cl X r)[j]? = some ((cl X r).getD j 0) := by
          rw [List.getD_eq_getElem?_getD, List.getElem?_eq_getElem (by omega)]
          rfl
        rw [natsD_get hc] at hy
        cases hy
        rw [this, hK]
        rfl
      subst ey
      have ew : f__with_states [rowD row, .list (natsD (cl X r))] = some (rowD (sig (cl X r) row)) := with_states (fun g => (cl X r).getD g 0) (by omega) fun p hp => by
        have := hrow.goal p hp
        refine ixL_nats ?_
        rw [List.getD_eq_getElem?_getD, List.getElem?_eq_getElem (by omega)]
        rfl
      have hfl := first_len (K.take j)
      rw [List.length_take] at hfl
      obtain ⟨l, el⟩ := first_take K j
      have hp : pos (first K) (sig (cl X r) row) = if sig (cl X r) row ∈ first (K.take j) then pos (first (K.take j)) (sig (cl X r) row) else (first (K.take j)).length := by
        by_cases m : sig (cl X r) row ∈ first (K.take j)
        · rw [if_pos m, el, pos_app, if_pos m]
        · obtain ⟨l2, e2⟩ := first_take K (j + 1)
          rw [tk, (numb_new m).1] at e2
          rw [if_neg m, e2, List.append_assoc, pos_app, if_neg m]
          show _ + (if sig (cl X r) row = sig (cl X r) row then 0 else _) = _
          rw [if_pos rfl]
          rfl
      have e1 : eqD (.int ((pos (first K) (sig (cl X r) row) : Nat) : Int)) (.int (((((first (K.take j)).map rowD).length : Nat)) : Int)) = some (.bool (!decide (sig (cl X r) row ∈ first (K.take j)))) := by
        show some (PyData.bool _) = _
        rw [List.length_map, hp]
        by_cases m : sig (cl X r) row ∈ first (K.take j)
        · have := (pos_lt m).1
          rw [if_pos m, decide_eq_true m]
          exact congrArg (fun b => some (PyData.bool b)) (beq_eq_false_iff_ne.mpr (by omega))
        · rw [if_neg m, decide_eq_false m]
          exact congrArg (fun b => some (PyData.bool b)) (by simp)
      refine ex_env rfl ?_
      repeat (first | with_reducible (first | refine op_ok e1 ?_) | walk_at "s")
      refine if_both (fun hb => ?_) (fun hb => ?_)
      · have m : sig (cl X r) row ∉ first (K.take j) := by
          intro m
          rw [decide_eq_true m] at hb
          cases hb
        repeat (first | with_reducible (first | refine op_ok ew ?_) | walk_at "s")
        refine ⟨fits' (by rw [List.length_map]; omega), ?_⟩
        repeat (first | walk_at "s")
        rw [tk, (numb_new m).1, List.map_append]
        exact ⟨_, _, rfl⟩
      · have m : sig (cl X r) row ∈ first (K.take j) := by
          rcases Classical.em (sig (cl X r) row ∈ first (K.take j)) with m | m
          · exact m
          · rw [decide_eq_false m] at hb
            cases hb
        repeat (first | walk_at "s")
        rw [tk, (numb_old m).1]
        exact ⟨_, _, rfl⟩
  · rintro ρ ⟨⟩ ⟨x3, x4, rfl⟩
    rw [zipL_len, List.length_map, nats_len, hcl, Nat.min_self, show K.take X.length = K by rw [← hKl, List.take_length]]
    refine s_retO rfl ?_
    rw [hK]
    rfl
theorem least {many : Nat} {M : Mc} (ok : OkM many M) (hM : M.length ≤ 24) (hm : many ≤ 9) : ∃ D, f_least [machD many M] = some (machD many D) ∧ Lst many M D ∧ D.length ≤ M.length := by
  have ok1 : OkM many (quo idN M) := quo_ok ok
  have l1 : (quo idN M).length ≤ M.length := by
    rw [quo_len]
    exact ord_len ok _
  obtain ⟨r, hr, e3⟩ := classes ok1 (by omega) hm
  have ok2 := mer_ok ok1 hr
  have l2 : (mer (quo idN M) r).length ≤ (quo idN M).length := by
    have := first_len ((quo idN M).map (sig (cl (quo idN M) r)))
    rw [List.length_map] at this
    exact this
  have l3 : (quo idN (mer (quo idN M) r)).length ≤ (mer (quo idN M) r).length := by
    rw [quo_len]
    exact ord_len ok2 _
  refine ⟨quo idN (mer (quo idN M) r), ?_, lst_of ok hr, by omega⟩
  have e1 := in_order (d := .tuple (M.map rowD)) ok (by omega) hm (.inl rfl)
  have e4 := merged ok1 (by omega) hm hr
  have e5 := in_order (d := .list ((mer (quo idN M) r).map rowD)) ok2 (by omega) hm (.inr rfl)
  refine fun_ok ?_
  refine s_env (ρ' := [some (.bor (machD many M)), none, none, none]) rfl ?_
  unfold m_least
  generalize rowsD (quo idN M) = z1 at e1 e3 e4
  repeat (first | with_reducible (first | refine op_ok e1 ?_ | refine op_ok e3 ?_ | refine op_ok e4 ?_ | refine op_ok e5 ?_) | walk_at "s")
  rfl
end Mi.MD
/-! The law's own least machine: its marks. -/
namespace Mi.MD
open PySem L2 TA TI LM RS
local macro_rules | `(tactic| walk_at "op") => `(tactic| with_reducible first
  | exact o_add | exact o_addI | exact o_sub | exact o_lt | exact o_le | exact o_gt | exact o_ge | exact o_eqI | exact o_neI | exact o_eqS | exact o_neS | exact o_neg | exact o_inv | exact o_and | exact o_or | exact o_xor
  | exact o_int | exact o_intB | exact o_abs | exact o_tupL | exact o_tupT | exact o_lenL | exact o_lenT | exact o_isN | exact o_isNotN)
local macro_rules | `(tactic| walk_at "ix") => `(tactic| ((with_reducible apply o_ixA); (first | apply o_ixL | apply o_ixT | apply o_dixS); focus rfl))
local macro_rules | `(tactic| walk_at "op2") => `(tactic| first
  | ((with_reducible apply o_inA); focus rfl)
  | ((with_reducible apply o_notInA); focus rfl)
  | (with_reducible (first | refine o_addL ?_ | refine o_addT ?_); simp only [List.length_cons, List.length_nil]; decide)
  | ((with_reducible apply o_modA); focus (exact mod_ok (by decide)))
  | ((with_reducible apply o_fdivA); focus (exact o_fdiv (by decide) (by decide))))
local macro_rules | `(tactic| walk_at "call") => `(tactic| fail)
local macro_rules | `(tactic| walk_at "s") => `(tactic| first
  | ((with_reducible apply s_set_env); focus (dsimp only [List.set] <;> rfl))
  | ((with_reducible apply f_callPK); (focus rfl); (focus rfl))
  | with_reducible first
    | refine s_seq ?_ | refine d_f (f_bin ?_) | refine d_f (f_c ?_) | refine s_set ?_ | refine v_rv ?_ | refine s_if ?_ | refine b_test ?_ | refine f_bin ?_ | refine f_c ?_ | refine s_ret ?_ | refine s_skip ?_
    | refine r_cons ?_ | refine r_nil ?_ | refine a_consT ?_ | refine a_nil ?_ | refine k_cons ?_ | refine k_nil ?_ | refine a_consF ?_
    | refine f_call ?_ | refine f_callP ?_ | refine f_keep ?_ | refine f_tup ?_ | refine f_if ?_ | refine f_andV ?_ | refine f_orV ?_ | refine f_notV ?_ | refine f_isi ?_ | refine f_sl ?_ | refine f_un ?_ | refine f_chain ?_
    | refine b_and ?_ | refine b_or ?_ | refine b_not ?_ | refine b_yes ?_
    | refine s_asg ?_ | refine s_app ?_ | refine s_par ?_ | refine s_pars ?_ | refine s_drop ?_ | refine s_retN ?_ | refine s_break ?_ | refine s_cont ?_ | refine s_end ?_ | refine s_setP ?_ | refine s_dropP ?_ | refine s_appP ?_ | refine p_at ?_ | refine p_end ?_ | refine s_par3 ?_ | refine ex_three ?_ | refine i_zip ?_ | refine zz_L ?_ | refine zz_T ?_ | refine l_revL ?_ | refine ex_lst ?_
    | refine l_lst ?_ | refine l_dict ?_ | refine l_listL ?_ | refine o_no ?_ | refine o_part ?_ | refine i_enum ?_ | refine i_range1 ?_ | refine v_new ?_ | refine vs_nil ?_ | refine vs_cons ?_
  | ((with_reducible apply d_v); focus rfl)
  | ((with_reducible apply f_v); focus rfl)
  | ((with_reducible apply s_aug); focus rfl)
  | ((with_reducible apply f_callT); focus rfl)
  | ((with_reducible apply w_b); (focus rfl))
  | ((with_reducible apply i_itemsB); (focus rfl); (focus rfl))
  | with_reducible first | refine d_f ?_ | refine w_f ?_ | refine i_items ?_
  | ((with_reducible refine if_yes ?_ ?_); focus rfl)
  | ((with_reducible refine if_no ?_ ?_); focus rfl)
  | ((with_reducible apply op_ok); focus (first | walk_at "op" | walk_at "ix" | walk_at "op2"))
  | ((with_reducible refine len_ok ?_ ?_); focus (simp only [List.length_cons, List.length_nil]; decide))
  | ((with_reducible refine pk_ok ?_ ?_); focus rfl)
  | ((with_reducible refine lt_ok ?_ ?_); focus (simp only [List.length_append, List.length_cons, List.length_nil]; decide))
  | ((with_reducible refine dict_ok ?_ ?_); focus (exact ⟨rfl, by decide, by decide⟩))
  | ((with_reducible refine par_ok ?_ ?_); focus (refine ⟨?_, rfl⟩; simp only [List.length_cons, List.length_nil]; decide))
  | walk_at "call"
  | with_reducible first | refine ex_bool ?_ | refine ex_int ?_ | refine ex_itL ?_ | refine ex_itT ?_ | refine ex_rng ?_ | refine ex_two ?_ | refine ex_lstL ?_ | refine ex_lstT ?_
  | ((with_reducible apply ex_env); focus rfl)
  | ((with_reducible apply ex_own); focus rfl))
/-! ### tuples of ints as data -/
theorem ints_of : ∀ k : List Int, intsOf (k.map PyData.int) = some k
  | [] => rfl
  | x :: r => by
    show (intsOf (r.map PyData.int)).map (x :: ·) = _
    rw [ints_of r]
    rfl
theorem tups_of : ∀ ks : List (List Int), tupsOf (ks.map tupI) = some ks
  | [] => rfl
  | k :: r => by
    show (match natL (tupI k) with | some k => (match tupsOf (r.map tupI) with | some ks => some (k :: ks) | none => none) | none => none) = _
    rw [tups_of r, show natL (tupI k) = some k from ints_of k]
theorem sort_set {ks : List (List Int)} (ok : setOk ks) : sortSetD [.list (ks.map tupI)] = some (.list ((sset ks).map tupI)) := by
  unfold sortSetD
  dsimp only
  rw [tups_of]
  exact if_pos ok
theorem len_set {ks : List (List Int)} (h : ks.length < 64) : lenSetD [.list (ks.map tupI)] = some (.int (((nub ks).length : Nat) : Int)) := by
  unfold lenSetD
  dsimp only
  rw [tups_of]
  exact if_pos h
theorem ints_lay : ∀ k : List Int, PyData.canLayAll0 (k.map PyData.int) = true ∧ PyData.depthAll (k.map PyData.int) = 0
  | [] => ⟨rfl, rfl⟩
  | x :: r => by
    obtain ⟨h1, h2⟩ := ints_lay r
    constructor
    · show PyData.canLayAll0 (PyData.int x :: r.map PyData.int) = true
      rw [PyData.canLayAll0, h1]
      rfl
    · show PyData.depthAll (PyData.int x :: r.map PyData.int) = 0
      rw [PyData.depthAll, h2]
      rfl
theorem tup_lay (k : List Int) : (tupI k).canLay0 = true ∧ (tupI k).depth = 1 := by
  obtain ⟨h1, h2⟩ := ints_lay k
  constructor
  · show PyData.canLay0 (.tuple (k.map PyData.int)) = true
    rw [PyData.canLay0]
    exact h1
  · show PyData.depth (.tuple (k.map PyData.int)) = 1
    rw [PyData.depth, h2]
theorem tups_lay : ∀ ks : List (List Int), PyData.canLayAll0 (ks.map tupI) = true ∧ PyData.depthAll (ks.map tupI) ≤ 1
  | [] => ⟨rfl, by rw [List.map_nil, PyData.depthAll]; decide⟩
  | k :: r => by
    obtain ⟨h1, h2⟩ := tups_lay r
    obtain ⟨g1, g2⟩ := tup_lay k
    constructor
    · rw [List.map_cons, PyData.canLayAll0, h1, g1]
      rfl
    · rw [List.map_cons, PyData.depthAll, g2]
      exact Nat.max_le.mpr ⟨Nat.le_refl _, h2⟩
theorem sh_tup1 (k : List Int) : SeqAt.shaped (tupI k) = true := by
  obtain ⟨g1, g2⟩ := tup_lay k
  exact Bool.and_eq_true_iff.mpr ⟨g1, decide_eq_true (by rw [g2]; decide)⟩
theorem sh_tups (ks : List (List Int)) : SeqAt.shaped (.list (ks.map tupI)) = true := by
  obtain ⟨h1, h2⟩ := tups_lay ks
  have c : PyData.canLay0 (.list (ks.map tupI)) = true := by rw [PyData.canLay0]; exact h1
  have d : (PyData.list (ks.map tupI)).depth ≤ 64 := by
    rw [PyData.depth]
    omega
  exact Bool.and_eq_true_iff.mpr ⟨c, decide_eq_true d⟩
theorem eqv_ints : ∀ a b : List Int, PyData.eqvAll (a.map PyData.int) (b.map PyData.int) = decide (a = b)
  | [], [] => rfl
  | [], y :: b => by rw [decide_eq_false (by simp)]; rfl
  | x :: a, [] => by rw [decide_eq_false (by simp)]; rfl
  | x :: a, y :: b => by
    show (PyData.eqv (.int x) (.int y) && PyData.eqvAll (a.map PyData.int) (b.map PyData.int)) = _
    rw [eqv_ints a b]
    have : PyData.eqv (.int x) (.int y) = decide (x = y) := by
      unfold PyData.eqv
      by_cases e : x = y
      · subst e; simp
      · rw [decide_eq_false e]
        exact beq_eq_false_iff_ne.mpr e
    rw [this]
    by_cases e : x = y
    · subst e
      simp
    · simp [e]
theorem eqv_tup (a b : List Int) : PyData.eqv (tupI a) (tupI b) = decide (a = b) := by
  show PyData.eqv (.tuple (a.map PyData.int)) (.tuple (b.map PyData.int)) = _
  unfold PyData.eqv
  exact eqv_ints a b
theorem find_pos (k : List Int) : ∀ ks : List (List Int), k ∈ ks → (ks.map tupI).findIdx? (fun z => PyData.eqv z (tupI k)) = some (pos ks k)
  | x :: r, h => by
    rw [List.map_cons, List.findIdx?_cons, eqv_tup]
    unfold pos
    by_cases e : x = k
    · rw [decide_eq_true e, if_pos e]
      rfl
    · rw [decide_eq_false e, if_neg e]
      have m : k ∈ r := by
        rcases List.mem_cons.mp h with q | q
        · exact absurd q.symm e
        · exact q
      rw [if_neg (by decide), find_pos k r m]
      rfl
theorem idx_tup {k : List Int} {ks : List (List Int)} (h : k ∈ ks) : idxM (.list (ks.map tupI)) (tupI k) = some (.int ((pos ks k : Nat) : Int)) := by
  unfold idxM
  dsimp only
  rw [if_pos ⟨sh_tups ks, sh_tup1 k⟩, find_pos k ks h]
  rfl
theorem notin_tup (k : List Int) (ks : List (List Int)) : notInS (tupI k) (.list (ks.map tupI)) = some (.bool (!decide (k ∈ ks))) := by
  unfold notInS
  dsimp only
  rw [if_pos ⟨sh_tup1 k, sh_tups ks⟩]
  have : ((ks.map tupI).any fun z => PyData.eqv z (tupI k)) = decide (k ∈ ks) := by
    induction ks with
    | nil => rfl
    | cons x r ih =>
      rw [List.map_cons, List.any_cons, ih, eqv_tup]
      by_cases e : x = k
      · subst e; simp
      · have e2 : ¬ k = x := fun h => e h.symm
        simp [e, e2]
  rw [this]
/-! ### one round -/
theorem zip_rows (js : List Nat) : ∀ X : Mc, zipL (natsD js) (X.map rowD) = (js.zip X).map fun p => PyData.tuple [.int (p.1 : Int), rowD p.2] := by
  induction js with
  | nil => intro X; rfl
  | cons j r ih =>
    intro X
    cases X with
    | nil => rfl
    | cons x xs =>
      show (_ :: zipL (natsD r) (xs.map rowD)) = _
      rw [ih xs]
      rfl
theorem zip_marks (f : Nat → List (Nat × Nat) → List Int) (js : List Nat) : ∀ X : Mc, ((js.zip X).map fun p => tupI (f p.1 p.2)) = (List.zipWith f js X).map tupI := by
  induction js with
  | nil => intro X; rfl
  | cons j r ih =>
    intro X
    cases X with
    | nil => rfl
    | cons x xs =>
      show (_ :: ((r.zip xs).map fun p => tupI (f p.1 p.2))) = _
      rw [ih xs]
      rfl
theorem marks_ok {many : Nat} {X : Mc} (ok : OkM many X) (hX : X.length ≤ 60) : ∀ r, setOk (mk X r) := fun r => by
  have hd : ∀ L, (∀ k ∈ mk X r, k.length = L) → ((mk X r).headD []).length = L := fun L h => by
    have hl := mk_len X r
    cases e : mk X r with
    | nil =>
      rw [e, List.length_nil] at hl
      have := ok.pos
      omega
    | cons k ks => exact h k (by rw [e]; exact List.mem_cons_self)
  obtain ⟨L, h1, h2⟩ : ∃ L, 1 ≤ L ∧ ∀ k ∈ mk X r, k.length = L ∧ TS.Bd 64 k := by
    cases r with
    | zero =>
      refine ⟨2 ^ many, Nat.two_pow_pos many, fun k mk' => ?_⟩
      obtain ⟨row, mr, rfl⟩ := List.mem_map.mp mk'
      have ro := ok.row row mr
      refine ⟨by unfold bitsI; rw [List.length_map]; exact ro.len, fun m hm => ?_⟩
      obtain ⟨p, mp, rfl⟩ := List.mem_map.mp hm
      have := ro.bit p mp
      omega
    | succ r =>
      refine ⟨2 ^ many + 1, Nat.le_add_left 1 _, fun k mk' => ?_⟩
      obtain ⟨s, hs⟩ := List.getElem?_of_mem mk'
      have hsX : s < X.length := by
        have := (List.getElem?_eq_some_iff.mp hs).1
        rwa [mk_len] at this
      rw [mk_at hsX] at hs
      cases hs
      have ro := ok.row _ (List.getElem_mem hsX)
      have jl : ∀ s, (jdx (mk X r)).getD s 0 < 64 := fun s => by
        by_cases q : s < X.length
        · have := jdx_lt (ms := mk X r) (s := s) (by rw [mk_len]; exact q)
          rw [mk_len] at this
          omega
        · rw [List.getD_eq_getElem?_getD, List.getElem?_eq_none (by rw [jdx_len, mk_len]; omega)]
          decide
      unfold markR
      refine ⟨by rw [List.length_cons, List.length_map, ro.len], fun m hm => ?_⟩
      rcases List.mem_cons.mp hm with rfl | hm
      · have := jl s
        omega
      · obtain ⟨p, _, rfl⟩ := List.mem_map.mp hm
        have := jl p.1
        omega
  have hh := hd L fun k mk' => (h2 k mk').1
  exact ⟨by rw [mk_len]; omega, by rw [hh]; exact h1, fun k mk' => by rw [hh]; exact h2 k mk'⟩
abbrev eM (m1 many rows : PyData) (x3 x4 x5 x6 x7 x8 x9 x10 x11 x12 x13 : Option Val) : Env := [some (.bor m1), some (.fro many), some (.fro rows), x3, x4, x5, x6, x7, x8, x9, x10, x11, x12, x13]
abbrev mRound : MS Unit := (mSeq (mSet 8 (mRv (mCall sortSetD (mCons (mV 3) mNil))))
  (mSeq (mSet 4 (mRv (mCall lenD (mCons (mV 8) mNil))))
  (mSeq (mSet 3 (mRv (mKeep (mLc (mItems (mV 3)) (gN 13) mYes (mMth idxM (mV 8) (mV 13)) [13]))))
  (mSet 3 (mRv (mKeep (mLc (mZip3 (mV 3) (mV 2)) (gT (gs1 (gN 13) (gs1 (gN 12) gs0)) 2) mYes (mBin addD (mTup (mCons (mV 13) mNil)) (mCall tupleD (mCons (mKeep (mLc (mItems (mV 12)) (gT (gs1 (gN 9) (gs1 (gN 10) gs0)) 2) mYes (mBin ixD (mV 3) (mV 9)) [9, 10])) mNil))) [13, 12])))))))
theorem round {many : Nat} {X : Mc} {m1 dm : PyData} (ok : OkM many X) (hX : X.length ≤ 60) (hm : many ≤ 9) (r : Nat) {x4 x5 x6 x7 x8 x9 x10 x11 x12 x13 : Option Val} {N : Env → Unit → Prop} {R : PyData → Unit → Prop} {B C : Env → Unit → Prop}
    (q : ∀ x8 x9 x10 x11 x12 x13, N (eM m1 dm (rowsD X) (some (.fro (.list ((mk X (r + 1)).map tupI)))) (some (.fro (.int (((nub (mk X r)).length : Nat) : Int)))) x5 x6 x7 x8 x9 x10 x11 x12 x13) ()) :
    Es mRound (eM m1 dm (rowsD X) (some (.fro (.list ((mk X r).map tupI)))) x4 x5 x6 x7 x8 x9 x10 x11 x12 x13) () N R B C := by
  unfold mRound
  have es := sort_set (marks_ok ok hX r)
  have hl := mk_len X r
  have hn : (sset (mk X r)).length = (nub (mk X r)).length := (sset_perm (mk X r)).length_eq
  have hnl := nodup_len (nub (mk X r)) (mk X r) (nub_nodup _) fun x m => nub_mem.mp m
  have el : lenD [.list ((sset (mk X r)).map tupI)] = some (.int (((nub (mk X r)).length : Nat) : Int)) := by
    show some (PyData.int ((((sset (mk X r)).map tupI).length : Nat) : Int)) = _
    rw [List.length_map, hn]
  repeat (first | with_reducible (first | refine op_ok es ?_ | refine op_ok el ?_) | walk_at "s")
  refine l_lc_to tupI (fun m => .int ((pos (sset (mk X r)) m : Nat) : Int)) (mk X r) ?_
  repeat (first | walk_at "s")
  refine ⟨rfl, fits (by rw [List.length_map]; omega), fun m hmm => ?_, ?_⟩
  · have ei := idx_tup (k := m) (ks := sset (mk X r)) (sset_mem.mpr hmm)
    refine ex_env rfl ?_
    refine f_mth ?_
    repeat (first | with_reducible (first | refine op_ok ei ?_) | walk_at "s")
    exact ⟨rfl, rfl⟩
  have ej : ((mk X r).map fun m => PyData.int ((pos (sset (mk X r)) m : Nat) : Int)) = natsD (jdx (mk X r)) := by
    unfold natsD jdx
    rw [List.map_map]
    rfl
  rw [ej]
  have hjl : (jdx (mk X r)).length = X.length := by rw [jdx_len, hl]
  repeat (first | walk_at "s")
  refine l_lc_to (fun p : Nat × List (Nat × Nat) => PyData.tuple [.int (p.1 : Int), rowD p.2]) (fun p => tupI (markR (jdx (mk X r)) p.1 p.2)) ((jdx (mk X r)).zip X) ?_
  repeat (first | with_reducible (first | refine i_zip3 ?_ | refine zz3_LT ?_) | walk_at "s")
  refine ⟨zip_rows _ _, fits (by rw [zipL_len, List.length_map, nats_len]; omega), fun p hp => ?_, ?_⟩
  · have hpX : p.2 ∈ X := (List.of_mem_zip hp).2
    have ro := ok.row p.2 hpX
    have hrl : p.2.length ≤ 512 := by
      rw [ro.len]
      exact Nat.pow_le_pow_right (n := 2) (by decide) hm
    refine ex_env rfl ?_
    dsimp only [rowD]
    repeat (first | walk_at "s")
    refine l_lc_to pairD (fun z => .int (((jdx (mk X r)).getD z.1 0 : Nat) : Int)) p.2 ?_
    repeat (first | walk_at "s")
    refine ⟨rfl, fits (by rw [List.length_map]; omega), fun z hz => ?_, ?_⟩
    · have hg := ro.goal z hz
      have ex : ixD (.list (natsD (jdx (mk X r)))) (.int (z.1 : Int)) = some (.int (((jdx (mk X r)).getD z.1 0 : Nat) : Int)) := by
        refine ixL_nats ?_
        rw [List.getD_eq_getElem?_getD, List.getElem?_eq_getElem (by omega)]
        rfl
      refine ex_env rfl ?_
      repeat (first | with_reducible (first | refine op_ok ex ?_) | walk_at "s")
      exact ⟨rfl, rfl⟩
    have ea : addD (.tuple [.int (p.1 : Int)]) (.tuple (p.2.map fun z => PyData.int (((jdx (mk X r)).getD z.1 0 : Nat) : Int))) = some (tupI (markR (jdx (mk X r)) p.1 p.2)) := by
      rw [o_addT (fits (by rw [List.length_map, List.length_singleton]; omega))]
      unfold tupI markR
      rw [List.map_cons, List.map_map]
      rfl
    repeat (first | with_reducible (first | refine op_ok ea ?_) | walk_at "s")
    exact ⟨rfl, rfl⟩
  rw [zip_marks]
  repeat (first | walk_at "s")
  exact q _ _ _ _ _ _
end Mi.MD
/-! The law's own least machine. -/
namespace Mi.MD
open PySem L2 TA TI LM RS
local macro_rules | `(tactic| walk_at "op") => `(tactic| with_reducible first
  | exact o_add | exact o_addI | exact o_sub | exact o_lt | exact o_le | exact o_gt | exact o_ge | exact o_eqI | exact o_neI | exact o_eqS | exact o_neS | exact o_neg | exact o_inv | exact o_and | exact o_or | exact o_xor
  | exact o_int | exact o_intB | exact o_abs | exact o_tupL | exact o_tupT | exact o_lenL | exact o_lenT | exact o_isN | exact o_isNotN)
local macro_rules | `(tactic| walk_at "ix") => `(tactic| ((with_reducible apply o_ixA); (first | apply o_ixL | apply o_ixT | apply o_dixS); focus rfl))
local macro_rules | `(tactic| walk_at "op2") => `(tactic| first
  | ((with_reducible apply o_inA); focus rfl)
  | ((with_reducible apply o_notInA); focus rfl)
  | (with_reducible (first | refine o_addL ?_ | refine o_addT ?_); simp only [List.length_cons, List.length_nil]; decide)
  | ((with_reducible apply o_modA); focus (exact mod_ok (by decide)))
  | ((with_reducible apply o_fdivA); focus (exact o_fdiv (by decide) (by decide))))
local macro_rules | `(tactic| walk_at "call") => `(tactic| fail)
local macro_rules | `(tactic| walk_at "s") => `(tactic| first
  | ((with_reducible apply s_set_env); focus (dsimp only [List.set] <;> rfl))
  | ((with_reducible apply f_callPK); (focus rfl); (focus rfl))
  | with_reducible first
    | refine s_seq ?_ | refine d_f (f_bin ?_) | refine d_f (f_c ?_) | refine s_set ?_ | refine v_rv ?_ | refine s_if ?_ | refine b_test ?_ | refine f_bin ?_ | refine f_c ?_ | refine s_ret ?_ | refine s_skip ?_
    | refine r_cons ?_ | refine r_nil ?_ | refine a_consT ?_ | refine a_nil ?_ | refine k_cons ?_ | refine k_nil ?_ | refine a_consF ?_
    | refine f_call ?_ | refine f_callP ?_ | refine f_keep ?_ | refine f_tup ?_ | refine f_if ?_ | refine f_andV ?_ | refine f_orV ?_ | refine f_notV ?_ | refine f_isi ?_ | refine f_sl ?_ | refine f_un ?_ | refine f_chain ?_
    | refine b_and ?_ | refine b_or ?_ | refine b_not ?_ | refine b_yes ?_
    | refine s_asg ?_ | refine s_app ?_ | refine s_par ?_ | refine s_pars ?_ | refine s_drop ?_ | refine s_retN ?_ | refine s_break ?_ | refine s_cont ?_ | refine s_end ?_ | refine s_setP ?_ | refine s_dropP ?_ | refine s_appP ?_ | refine p_at ?_ | refine p_end ?_ | refine s_par3 ?_ | refine ex_three ?_ | refine i_zip ?_ | refine zz_L ?_ | refine zz_T ?_ | refine l_revL ?_ | refine ex_lst ?_
    | refine l_lst ?_ | refine l_dict ?_ | refine l_listL ?_ | refine o_no ?_ | refine o_part ?_ | refine i_enum ?_ | refine i_range1 ?_ | refine v_new ?_ | refine vs_nil ?_ | refine vs_cons ?_
  | ((with_reducible apply d_v); focus rfl)
  | ((with_reducible apply f_v); focus rfl)
  | ((with_reducible apply s_aug); focus rfl)
  | ((with_reducible apply f_callT); focus rfl)
  | ((with_reducible apply w_b); (focus rfl))
  | ((with_reducible apply i_itemsB); (focus rfl); (focus rfl))
  | with_reducible first | refine d_f ?_ | refine w_f ?_ | refine i_items ?_
  | ((with_reducible refine if_yes ?_ ?_); focus rfl)
  | ((with_reducible refine if_no ?_ ?_); focus rfl)
  | ((with_reducible apply op_ok); focus (first | walk_at "op" | walk_at "ix" | walk_at "op2"))
  | ((with_reducible refine len_ok ?_ ?_); focus (simp only [List.length_cons, List.length_nil]; decide))
  | ((with_reducible refine pk_ok ?_ ?_); focus rfl)
  | ((with_reducible refine lt_ok ?_ ?_); focus (simp only [List.length_append, List.length_cons, List.length_nil]; decide))
  | ((with_reducible refine dict_ok ?_ ?_); focus (exact ⟨rfl, by decide, by decide⟩))
  | ((with_reducible refine par_ok ?_ ?_); focus (refine ⟨?_, rfl⟩; simp only [List.length_cons, List.length_nil]; decide))
  | walk_at "call"
  | with_reducible first | refine ex_bool ?_ | refine ex_int ?_ | refine ex_itL ?_ | refine ex_itT ?_ | refine ex_rng ?_ | refine ex_two ?_ | refine ex_lstL ?_ | refine ex_lstT ?_
  | ((with_reducible apply ex_env); focus rfl)
  | ((with_reducible apply ex_own); focus rfl))
abbrev keyC (X : Mc) (r : Nat) : Nat → List Int := fun s => (mk X (r + 1)).getD s []
abbrev mOrd : MS Unit := (mSeq (mPar 5 6 (mConsV (mNew (mLst (mCons (mC (.int 0)) mNil))) (mConsV (mRv (mC (.int 0))) mNilV)))
  (mSeq (whileN (mTest (mBin ltD (mV 6) (mCall lenD (mCons (mV 5) mNil)))) (mSeq (mFor (mItems (mBin ixD (mV 2) (mBin ixD (mV 5) (mV 6)))) (gT (gs1 (gN 9) (gs1 (gN 10) gs0)) 2) (mIfS (mTest (mBin notInS (mBin ixD (mV 3) (mV 9)) (mKeep (mLcO 5 (gN 11) mYes (mBin ixD (mV 3) (mV 11)) [11])))) (mApp 5 (mV 9)) mSkip))
  (mSet 6 (mRv (mBin addD (mV 6) (mC (.int 1)))))) 700)
  (mSeq (mSet 7 (mRv (mKeep (mLcO 5 (gN 11) mYes (mBin ixD (mV 3) (mV 11)) [11]))))
  (mRet (mTup (mCons (mV 1) (mCons (mCall tupleD (mCons (mKeep (mLcO 5 (gN 11) mYes (mCall tupleD (mCons (mKeep (mLc (mItems (mBin ixD (mV 2) (mV 11))) (gT (gs1 (gN 9) (gs1 (gN 10) gs0)) 2) mYes (mTup (mCons (mMth idxM (mV 7) (mBin ixD (mV 3) (mV 9))) (mCons (mV 10) mNil))) [9, 10])) mNil)) [11])) mNil)) mNil)))))))
theorem orders {many : Nat} {X : Mc} {m1 : PyData} (ok : OkM many X) (hX : X.length ≤ 60) (hm : many ≤ 9) (r : Nat) {x4 x5 x6 x7 x8 x9 x10 x11 x12 x13 : Option Val} :
    Es mOrd (eM m1 (.int (many : Int)) (rowsD X) (some (.fro (.list ((mk X (r + 1)).map tupI)))) x4 x5 x6 x7 x8 x9 x10 x11 x12 x13) () No (fun d _ => d = machD many (quo (keyC X r) X)) No No := by
  obtain ⟨c, hc⟩ : ∃ c, c = keyC X r := ⟨_, rfl⟩
  rw [← hc]
  have hl := mk_len X (r + 1)
  have at3 : ∀ s, s < X.length → ixD (.list ((mk X (r + 1)).map tupI)) (.int (s : Int)) = some (tupI (c s)) := fun s hs => by
    refine o_ixL (atI_nat ?_)
    rw [List.getElem?_map, List.getElem?_eq_getElem (by omega), hc]
    show some (tupI _) = some (tupI ((mk X (r + 1)).getD s []))
    rw [List.getD_eq_getElem?_getD, List.getElem?_eq_getElem (by omega)]
    rfl
  have ixR : ∀ s : Nat, s < X.length → ixD (.tuple (X.map rowD)) (.int (s : Int)) = some (.tuple ((X.getD s []).map pairD)) := fun s hs => by
    have e : X[s]? = some (X.getD s []) := by rw [List.getD_eq_getElem?_getD, List.getElem?_eq_getElem hs]; rfl
    exact atI_nat (by rw [List.getElem?_map, e]; rfl)
  have rowL : ∀ s : Nat, s < X.length → (X.getD s []).length ≤ 512 := fun s hs => by
    have := (ok.row _ (List.getElem_mem hs)).len
    rw [List.getD_eq_getElem?_getD, List.getElem?_eq_getElem hs]
    show X[s].length ≤ 512
    rw [this]
    exact Nat.pow_le_pow_right (n := 2) (by decide) hm
  unfold mOrd
  clear hc
  generalize (mk X (r + 1)).map tupI = MK at at3
  repeat (first | walk_at "s")
  refine s_while (fun n ρ _ => ∃ (k : Nat) (x7 x9 x10 x11 x12 x13 : Option Val), n + k = 700 ∧ k ≤ (ordN c X k).length ∧ ρ = eM m1 (.int (many : Int)) (rowsD X) (some (.fro (.list MK))) x4 (some (.own (.list (natsD (ordN c X k))))) (some (.fro (.int (k : Int)))) x7 x8 x9 x10 x11 x12 x13) ⟨0, x7, x9, x10, x11, x12, x13, rfl, Nat.zero_le _, rfl⟩ ?_
  rintro n ρ t ⟨k, x7, x9, x10, x11, x12, x13, hn, hk, rfl⟩
  have oo := ord_ok (c := c) ok k
  have ol := ord_len (c := c) ok k
  repeat (first | walk_at "s")
  rw [nats_len]
  refine if_both (fun hlt => ?_) (fun hlt => ?_)
  · have hlt : k < (ordN c X k).length := by
      have := of_decide_eq_true hlt
      omega
    cases n with
    | zero => omega
    | succ n =>
      refine ⟨n, rfl, ?_⟩
      obtain ⟨s, hs⟩ : ∃ s, (ordN c X k)[k]? = some s := ⟨_, List.getElem?_eq_getElem hlt⟩
      have hsX : s < X.length := oo.lt s (List.mem_of_getElem? hs)
      have e1 : ixD (.list (natsD (ordN c X k))) (.int (k : Int)) = some (.int (s : Int)) := ixL_nats hs
      have e2 := ixR s hsX
      have enext := ordN_some hs
      have hrl := rowL s hsX
      have hgl := goals_lt ok (s := s)
      generalize X.getD s [] = row at e2 enext hrl hgl
      have nextN : (ordN c X (k + 1)).length ≤ X.length := ord_len ok (k + 1)
      obtain ⟨lx, elx⟩ := ordN_pre (c := c) (X := X) k
      have nextL : (ordN c X k).length ≤ (ordN c X (k + 1)).length := by
        rw [elx, List.length_append]
        omega
      repeat (first | with_reducible (first | refine op_ok e1 ?_ | refine op_ok e2 ?_) | walk_at "s")
      refine s_for (fun j ρ _ => ∃ (x9 x10 x11 : Option Val), ρ = eM m1 (.int (many : Int)) (rowsD X) (some (.fro (.list MK))) x4 (some (.own (.list (natsD (ordS c (ordN c X k) (goals (row.take j))))))) (some (.fro (.int (k : Int)))) x7 x8 x9 x10 x11 x12 x13) ?_
      repeat (first | with_reducible (first | refine op_ok e1 ?_ | refine op_ok e2 ?_) | walk_at "s")
      refine ⟨⟨_, _, _, rfl⟩, ?_, ?_⟩
      · rintro j z ρ ⟨⟩ hj ⟨x9, x10, x11, rfl⟩
        rw [List.getElem?_map] at hj
        cases hrj : row[j]? with
        | none => rw [hrj] at hj; cases hj
        | some p =>
          rw [hrj] at hj
          cases hj
          have hst : ordS c (ordN c X k) (goals (row.take (j + 1))) = meet c (ordS c (ordN c X k) (goals (row.take j))) p.1 := by
            unfold goals
            rw [take_at hrj, List.map_append]
            exact ordS_snoc c _ _ _
          have hsub := (oo.all (gs := goals (row.take j)) fun g mg => hgl g (by
            obtain ⟨q, mq, rfl⟩ := List.mem_map.mp mg
            exact List.mem_map.mpr ⟨q, List.mem_of_mem_take mq, rfl⟩)).1
          have hpX : p.1 < X.length := hgl p.1 (List.mem_map.mpr ⟨p, List.mem_of_getElem? hrj, rfl⟩)
          have hlo := L2.nat_nodup_len _ (List.range X.length) (LM.nodup_of_map hsub.nd) fun x m => List.mem_range.mpr (hsub.lt x m)
          rw [List.length_range] at hlo
          rw [hst]
          unfold meet
          have hlts := hsub.lt
          clear hsub hst
          generalize ordS c (ordN c X k) (goals (row.take j)) = o at hlo hlts
          have e3 := at3 p.1 hpX
          have en : notInS (tupI (c p.1)) (.list (o.map fun s => tupI (c s))) = some (.bool (!decide (c p.1 ∈ o.map c))) := by
            have := notin_tup (c p.1) (o.map c)
            rw [List.map_map] at this
            exact this
          refine ex_env rfl ?_
          repeat (first | ((with_reducible apply l_lcO); focus rfl) | with_reducible (first | refine op_ok e3 ?_) | walk_at "s")
          refine l_lc_to (fun s : Nat => PyData.int (s : Int)) (fun s => tupI (c s)) o ?_
          refine i_const ?_
          refine ⟨rfl, fits (by rw [nats_len]; omega), fun s ms => ?_, ?_⟩
          · have e4 := at3 s (hlts s ms)
            refine ex_env rfl ?_
            repeat (first | with_reducible (first | refine op_ok e4 ?_) | walk_at "s")
            exact ⟨rfl, rfl⟩
          repeat (first | with_reducible (first | refine op_ok en ?_) | walk_at "s")
          refine if_both (fun hb => ?_) (fun hb => ?_)
          · have m : c p.1 ∉ o.map c := by
              intro m
              rw [decide_eq_true m] at hb
              cases hb
            rw [if_neg m]
            repeat (first | walk_at "s")
            refine ⟨fits' (by rw [nats_len]; omega), ?_⟩
            repeat (first | walk_at "s")
            rw [natsD_snoc]
            exact ⟨_, _, _, rfl⟩
          · have m : c p.1 ∈ o.map c := by
              rcases Classical.em (c p.1 ∈ o.map c) with m | m
              · exact m
              · rw [decide_eq_false m] at hb
                cases hb
            rw [if_pos m]
            repeat (first | walk_at "s")
            exact ⟨_, _, _, rfl⟩
      · rintro ρ ⟨⟩ ⟨x9, x10, x11, rfl⟩
        rw [List.length_map, List.take_length]
        repeat (first | walk_at "s")
        refine ⟨k + 1, x7, x9, x10, x11, x12, x13, by omega, by omega, ?_⟩
        rw [enext]
        rfl
  · have hge : (ordN c X k).length ≤ k := by
      have := of_decide_eq_false hlt
      omega
    have eF : ordN c X k = ordF c X := (ord_stop hge X.length (by omega)).symm
    refine ⟨by omega, ?_⟩
    rw [eF] at oo ol ⊢
    repeat (first | ((with_reducible apply l_lcO); focus rfl) | walk_at "s")
    refine l_lc_to (fun s : Nat => PyData.int (s : Int)) (fun s => tupI (c s)) (ordF c X) ?_
    refine i_const ?_
    refine ⟨rfl, fits (by rw [nats_len]; omega), fun s ms => ?_, ?_⟩
    · have e4 := at3 s (oo.lt s ms)
      refine ex_env rfl ?_
      repeat (first | with_reducible (first | refine op_ok e4 ?_) | walk_at "s")
      exact ⟨rfl, rfl⟩
    have enum : ((ordF c X).map fun s => tupI (c s)) = ((ordF c X).map c).map tupI := by rw [List.map_map]; rfl
    rw [enum]
    repeat (first | ((with_reducible apply l_lcO); focus rfl) | walk_at "s")
    refine l_lc_to (fun s : Nat => PyData.int (s : Int)) (fun s => rowD ((X.getD s []).map fun p => (pos ((ordF c X).map c) (c p.1), p.2))) (ordF c X) ?_
    refine i_const ?_
    refine ⟨rfl, fits (by rw [nats_len]; omega), fun s ms => ?_, ?_⟩
    · obtain ⟨i, hi⟩ := List.getElem?_of_mem ms
      have hcl := closed ok hi
      have hsX := oo.lt s ms
      have e2 := ixR s hsX
      have hrl := rowL s hsX
      have hgl := goals_lt ok (s := s)
      generalize X.getD s [] = row at e2 hrl hgl hcl
      refine ex_env rfl ?_
      repeat (first | with_reducible (first | refine op_ok e2 ?_) | walk_at "s")
      refine l_lc_to pairD (fun p => pairD (pos ((ordF c X).map c) (c p.1), p.2)) row ?_
      repeat (first | with_reducible (first | refine op_ok e2 ?_) | walk_at "s")
      refine ⟨rfl, fits (by rw [List.length_map]; omega), fun p hp => ?_, ?_⟩
      · have hpg : p.1 ∈ goals row := List.mem_map.mpr ⟨p, hp, rfl⟩
        have e3 := at3 p.1 (hgl p.1 hpg)
        have e5 := idx_tup (hcl p.1 hpg)
        refine ex_env rfl ?_
        repeat (first | with_reducible (first | refine f_mth ?_ | refine op_ok e3 ?_ | refine op_ok e5 ?_) | walk_at "s")
        exact ⟨rfl, rfl⟩
      repeat (first | walk_at "s")
      unfold rowD
      rw [List.map_map]
      exact ⟨rfl, rfl⟩
    repeat (first | walk_at "s")
    show PyData.tuple [.int (many : Int), .tuple _] = PyData.tuple [.int (many : Int), .tuple ((quo c X).map rowD)]
    unfold quo
    rw [List.map_map]
    rfl
theorem law_least {many : Nat} {M : Mc} (ok : OkM many M) (hM : M.length ≤ 24) (hm : many ≤ 9) : ∃ D, f__law_least [machD many M] = some (machD many D) ∧ Lst many M D ∧ D.length ≤ M.length := by
  have key := fun_okP (n := 14) (bs := [true]) (body := m__law_least) (ds := [machD many M]) (P := fun d => ∃ D, d = machD many D ∧ Lst many M D ∧ D.length ≤ M.length) ?_
  · obtain ⟨d, e, D, rfl, h⟩ := key
    exact ⟨D, e, h⟩
  refine s_env (ρ' := [some (.bor (machD many M)), none, none, none, none, none, none, none, none, none, none, none, none, none]) rfl ?_
  unfold m__law_least
  repeat (first | walk_at "s")
  refine l_lc_to rowD (fun row => tupI (bitsI row)) M ?_
  repeat (first | walk_at "s")
  refine ⟨rfl, fits (by rw [List.length_map]; omega), fun row mr => ?_, ?_⟩
  · have ro := ok.row row mr
    have hrl : row.length ≤ 512 := by
      rw [ro.len]
      exact Nat.pow_le_pow_right (n := 2) (by decide) hm
    refine ex_env rfl ?_
    dsimp only [rowD]
    repeat (first | walk_at "s")
    refine l_lc_to pairD (fun p => .int ((p.2 : Nat) : Int)) row ?_
    repeat (first | walk_at "s")
    refine ⟨rfl, fits (by rw [List.length_map]; omega), fun p hp => ?_, ?_⟩
    · refine ex_env rfl ?_
      repeat (first | walk_at "s")
      exact ⟨rfl, rfl⟩
    repeat (first | walk_at "s")
    unfold tupI bitsI
    rw [List.map_map]
    exact ⟨rfl, rfl⟩
  have e0 : (M.map fun row => tupI (bitsI row)) = (mk M 0).map tupI := by
    show _ = (M.map bitsI).map tupI
    rw [List.map_map]
    rfl
  rw [e0]
  repeat (first | walk_at "s")
  refine s_while (fun n ρ _ => ∃ (r z : Nat) (x8 x9 x10 x11 x12 x13 : Option Val), ((r = 0 ∧ z = 0 ∧ n = 700) ∨ ∃ r', r = r' + 1 ∧ z = (nub (mk M r')).length ∧ alike M.length (fun s => (mk M r').getD s []) + 1 ≤ n) ∧ ρ = eM (machD many M) (.int (many : Int)) (rowsD M) (some (.fro (.list ((mk M r).map tupI)))) (some (.fro (.int (z : Int)))) none none none x8 x9 x10 x11 x12 x13) ⟨0, 0, none, none, none, none, none, none, .inl ⟨rfl, rfl, rfl⟩, rfl⟩ ?_
  rintro n ρ t ⟨r, z, x8, x9, x10, x11, x12, x13, hn, rfl⟩
  have hl := mk_len M r
  have eL := len_set (ks := mk M r) (by omega)
  have hpos : 0 < (nub (mk M r)).length := by
    have : (mk M r)[0]'(by rw [hl]; exact ok.pos) ∈ nub (mk M r) := nub_mem.mpr (List.getElem_mem _)
    exact List.length_pos_of_mem this
  repeat (first | with_reducible (first | refine op_ok eL ?_) | walk_at "s")
  refine if_both (fun hb => ?_) (fun hb => ?_)
  · have hne : (nub (mk M r)).length ≠ z := by
      intro h
      rw [h] at hb
      simp at hb
    have hn1 : 1 ≤ n := by
      rcases hn with ⟨_, _, h⟩ | ⟨r', _, _, h⟩ <;> omega
    obtain ⟨n', rfl⟩ : ∃ n', n = n' + 1 := ⟨n - 1, by omega⟩
    refine ⟨n', rfl, ?_⟩
    refine round ok (by omega) hm r fun x8 x9 x10 x11 x12 x13 => ⟨r + 1, (nub (mk M r)).length, x8, x9, x10, x11, x12, x13, .inr ⟨r, rfl, rfl, ?_⟩, rfl⟩
    rcases hn with ⟨rfl, _, h⟩ | ⟨r', rfl, rfl, h⟩
    · have := alike_le M.length (fun s => (mk M 0).getD s [])
      have : M.length * M.length ≤ 24 * 24 := Nat.mul_le_mul hM hM
      omega
    · have := mk_less ok hne
      omega
  · have he : (nub (mk M r)).length = z := by
      have : (((nub (mk M r)).length : Nat) : Int) = (z : Int) := by
        simpa using hb
      omega
    rcases hn with ⟨_, rfl, _⟩ | ⟨r', rfl, rfl, h⟩
    · omega
    · refine ⟨by omega, ?_⟩
      have o := orders (m1 := machD many M) ok (by omega) hm r' (x4 := some (.fro (.int (((nub (mk M r')).length : Nat) : Int)))) (x5 := none) (x6 := none) (x7 := none) (x8 := x8) (x9 := x9) (x10 := x10) (x11 := x11) (x12 := x12) (x13 := x13)
      obtain ⟨fr, t', e, q⟩ := o
      refine ⟨fr, t', e, ?_⟩
      cases fr with
      | rt d =>
        cases (show d = _ from q)
        refine ⟨_, rfl, lst_mk ok he, ?_⟩
        rw [quo_len]
        exact ord_len ok _
      | nx ρ => exact q.elim
      | bk ρ => exact q.elim
      | ct ρ => exact q.elim
end Mi.MD
/-! Shared: mixing; machines that are grown. -/
namespace Mi.MD
open PySem L2 TI RS LM
open TA (TrOk)
local macro_rules | `(tactic| walk_at "op") => `(tactic| with_reducible first
  | exact o_add | exact o_addI | exact o_sub | exact o_lt | exact o_le | exact o_gt | exact o_ge | exact o_eqI | exact o_neI | exact o_eqS | exact o_neS | exact o_neg | exact o_inv | exact o_and | exact o_or | exact o_xor
  | exact o_int | exact o_intB | exact o_abs | exact o_tupL | exact o_tupT | exact o_lenL | exact o_lenT | exact o_isN | exact o_isNotN)
local macro_rules | `(tactic| walk_at "ix") => `(tactic| ((with_reducible apply o_ixA); (first | apply o_ixL | apply o_ixT | apply o_dixS); focus rfl))
local macro_rules | `(tactic| walk_at "op2") => `(tactic| first
  | ((with_reducible apply o_inA); focus rfl)
  | ((with_reducible apply o_notInA); focus rfl)
  | (with_reducible (first | refine o_addL ?_ | refine o_addT ?_); simp only [List.length_cons, List.length_nil]; decide)
  | ((with_reducible apply o_modA); focus (exact mod_ok (by decide)))
  | ((with_reducible apply o_fdivA); focus (exact o_fdiv (by decide) (by decide))))
local macro_rules | `(tactic| walk_at "call") => `(tactic| fail)
local macro_rules | `(tactic| walk_at "s") => `(tactic| first
  | ((with_reducible apply s_set_env); focus (dsimp only [List.set] <;> rfl))
  | ((with_reducible apply f_callPK); (focus rfl); (focus rfl))
  | with_reducible first
    | refine s_seq ?_ | refine d_f (f_bin ?_) | refine d_f (f_c ?_) | refine s_set ?_ | refine v_rv ?_ | refine s_if ?_ | refine b_test ?_ | refine f_bin ?_ | refine f_c ?_ | refine s_ret ?_ | refine s_skip ?_
    | refine r_cons ?_ | refine r_nil ?_ | refine a_consT ?_ | refine a_nil ?_ | refine k_cons ?_ | refine k_nil ?_ | refine a_consF ?_
    | refine f_call ?_ | refine f_callP ?_ | refine f_keep ?_ | refine f_tup ?_ | refine f_if ?_ | refine f_andV ?_ | refine f_orV ?_ | refine f_notV ?_ | refine f_isi ?_ | refine f_sl ?_ | refine f_un ?_ | refine f_chain ?_
    | refine b_and ?_ | refine b_or ?_ | refine b_not ?_ | refine b_yes ?_
    | refine s_asg ?_ | refine s_app ?_ | refine s_par ?_ | refine s_pars ?_ | refine s_drop ?_ | refine s_retN ?_ | refine s_break ?_ | refine s_cont ?_ | refine s_end ?_ | refine s_setP ?_ | refine s_dropP ?_ | refine s_appP ?_ | refine p_at ?_ | refine p_end ?_ | refine s_par3 ?_ | refine ex_three ?_ | refine i_zip ?_ | refine zz_L ?_ | refine zz_T ?_ | refine l_revL ?_ | refine ex_lst ?_
    | refine l_lst ?_ | refine l_dict ?_ | refine l_listL ?_ | refine o_no ?_ | refine o_part ?_ | refine i_enum ?_ | refine i_range1 ?_ | refine v_new ?_ | refine vs_nil ?_ | refine vs_cons ?_
  | ((with_reducible apply d_v); focus rfl)
  | ((with_reducible apply f_v); focus rfl)
  | ((with_reducible apply s_aug); focus rfl)
  | ((with_reducible apply f_callT); focus rfl)
  | ((with_reducible apply w_b); (focus rfl))
  | ((with_reducible apply i_itemsB); (focus rfl); (focus rfl))
  | with_reducible first | refine d_f ?_ | refine w_f ?_ | refine i_items ?_
  | ((with_reducible refine if_yes ?_ ?_); focus rfl)
  | ((with_reducible refine if_no ?_ ?_); focus rfl)
  | ((with_reducible apply op_ok); focus (first | walk_at "op" | walk_at "ix" | walk_at "op2"))
  | ((with_reducible refine len_ok ?_ ?_); focus (simp only [List.length_cons, List.length_nil]; decide))
  | ((with_reducible refine pk_ok ?_ ?_); focus rfl)
  | ((with_reducible refine lt_ok ?_ ?_); focus (simp only [List.length_append, List.length_cons, List.length_nil]; decide))
  | ((with_reducible refine dict_ok ?_ ?_); focus (exact ⟨rfl, by decide, by decide⟩))
  | ((with_reducible refine par_ok ?_ ?_); focus (refine ⟨?_, rfl⟩; simp only [List.length_cons, List.length_nil]; decide))
  | walk_at "call"
  | with_reducible first | refine ex_bool ?_ | refine ex_int ?_ | refine ex_itL ?_ | refine ex_itT ?_ | refine ex_rng ?_ | refine ex_two ?_ | refine ex_lstL ?_ | refine ex_lstT ?_
  | ((with_reducible apply ex_env); focus rfl)
  | ((with_reducible apply ex_own); focus rfl))
def m__law_mixed : MS Tr :=
  (mSeq (mPar 2 3 (mConsV (mNew (mListL (mCons (mV 1) mNil))) (mConsV (mNew (mLst mNil)) mNilV)))
  (mSeq (whileN (mTest (mBin neD (mV 2) (mKeep (mLst mNil)))) (mAppP 3 2 (mPopAt 2 (mCallT [true] TA.f__law_draw (mCons (mV 0) (mCons (mCall lenD (mCons (mV 2) mNil)) mNil))))) 100)
  (mRet (mV 3))))
def f__law_mixed : Tr → List PyData → Option (PyData × Tr) := mFunT 4 [true] m__law_mixed
theorem ne_nil (xs : List PyData) : neD (.list xs) (.list []) = some (.bool (!xs.isEmpty)) := by
  cases xs with
  | nil => rfl
  | cons x xs => rfl
theorem mixed {n : Int} {t : Tr} {xs : List PyData} {P : PyData → Tr → Prop} (h : TrOk n t) (hn : n ≤ 900000000) (hl : xs.length < 100) (q : ∀ (ys : List PyData) (t' : Tr), TrOk (n + 100) t' → ys.Perm xs → P (.list ys) t') : ∃ z t2, f__law_mixed t [.list xs] = some (z, t2) ∧ P z t2 := by
  refine funT_ok ?_
  refine s_env (ρ' := [some (.tray 0), some (.bor (.list xs)), none, none]) rfl ?_
  unfold m__law_mixed
  repeat (first | walk_at "s")
  refine s_while (fun k ρ t => ∃ (us ys : List PyData), ρ = [some (.tray 0), some (.bor (.list xs)), some (.own (.list us)), some (.own (.list ys))] ∧ us.length < k ∧ (us ++ ys).Perm xs ∧ TrOk (n + ys.length) t) ⟨xs, [], rfl, hl, by rw [List.append_nil], h.mono (by simp)⟩ ?_
  rintro k ρ t ⟨us, ys, rfl, hk, hp, ht⟩
  have hs : us.length + ys.length = xs.length := by rw [← List.length_append]; exact hp.length_eq
  repeat (first | with_reducible (first | refine op_ok (ne_nil us) ?_) | walk_at "s")
  refine if_both (fun hb => ?_) (fun hb => ?_)
  · have hne : us ≠ [] := by rintro rfl; cases hb
    have hpos : 0 < us.length := List.length_pos_iff.mpr hne
    cases k with
    | zero => omega
    | succ k =>
      refine ⟨k, rfl, ?_⟩
      repeat (first | walk_at "s")
      refine drawT us.length rfl ht (by omega) hpos (by omega) fun r t1 h1 hr => ?_
      repeat (first | walk_at "s")
      refine ⟨r, rfl, by omega, us[r], List.getElem?_eq_getElem hr, ?_⟩
      repeat (first | walk_at "s")
      refine ⟨⟨by decide, fits' (by omega)⟩, us.eraseIdx r, ys ++ [us[r]], rfl, ?_, ?_, ?_⟩
      · rw [List.length_eraseIdx_of_lt hr]; omega
      · refine List.Perm.trans ?_ hp
        have e1 : us.Perm (us[r] :: us.eraseIdx r) := by
          have e0 : us = us.take r ++ us[r] :: us.drop (r + 1) := by rw [List.getElem_cons_drop, List.take_append_drop]
          rw [List.eraseIdx_eq_take_drop_succ]
          conv => lhs; rw [e0]
          exact List.perm_middle
        refine List.Perm.trans ?_ (e1.symm.append_right ys)
        rw [← List.append_assoc]
        show ((us.eraseIdx r ++ ys) ++ [us[r]]).Perm (us[r] :: (us.eraseIdx r ++ ys))
        exact List.perm_append_singleton _ _
      · rw [List.length_append, List.length_singleton]; exact h1.mono (by omega)
  · have hnil : us = [] := by
      cases us with
      | nil => rfl
      | cons u us => cases hb
    subst hnil
    refine ⟨by omega, ?_⟩
    refine s_retO rfl ?_
    rw [List.length_nil] at hs
    exact q ys t (ht.mono (by omega)) hp
theorem idx_nat {k : Nat} {ks : List Nat} (h : k ∈ ks) : idxM (.list (natsD ks)) (.int (k : Int)) = some (.int ((pos ks k : Nat) : Int)) := by
  have sh : ∀ xs : List Nat, SeqAt.shaped (.list (natsD xs)) = true := fun xs => by
    obtain ⟨h1, h2⟩ := nats_all xs
    have dd : (PyData.list (natsD xs)).depth ≤ 64 := by
      rw [PyData.depth, h2]
      decide
    exact Bool.and_eq_true_iff.mpr ⟨h1, decide_eq_true dd⟩
  have fnd : ∀ ks : List Nat, k ∈ ks → (natsD ks).findIdx? (fun z => PyData.eqv z (.int (k : Int))) = some (pos ks k) := fun ks => by
    induction ks with
    | nil => intro h; cases h
    | cons x r ih =>
      intro h
      show ((PyData.int (x : Int)) :: natsD r).findIdx? _ = _
      rw [List.findIdx?_cons]
      have ee : PyData.eqv (.int (x : Int)) (.int (k : Int)) = decide (x = k) := by
        unfold PyData.eqv
        by_cases e : x = k
        · subst e; simp
        · rw [decide_eq_false e]
          exact beq_eq_false_iff_ne.mpr (by omega)
      rw [ee]
      unfold pos
      by_cases e : x = k
      · rw [decide_eq_true e, if_pos e]
        rfl
      · have m : k ∈ r := by
          rcases List.mem_cons.mp h with q | q
          · exact absurd q.symm e
          · exact q
        rw [decide_eq_false e, if_neg e, if_neg (by decide), ih m]
        rfl
  unfold idxM
  dsimp only
  rw [if_pos ⟨sh ks, rfl⟩, fnd ks h]
  rfl
def GoodRow (c : Nat) (hm : Nat → Nat) (src dst : List (Nat × Nat)) : Prop := dst.length = src.length ∧ ∀ (l : Nat) (p : Nat × Nat), src[l]? = some p → ∃ k', dst[l]? = some (k', p.2) ∧ k' < c ∧ hm k' = p.1
theorem grown_beh {many c : Nat} {M N : Mc} {hm : Nat → Nat} (ok : OkM many M) (h0 : hm 0 = 0) (hc : 0 < c) (hlt : ∀ k, k < c → hm k < M.length) (hr : ∀ k, k < c → ∃ dst, N[k]? = some dst ∧ GoodRow c hm (M.getD (hm k) []) dst) : beh many N M 0 0 := by
  refine beh_of (fun k p => k < c ∧ p = hm k) (fun k p ⟨hk, e⟩ l hl => ?_) ⟨hc, h0.symm⟩
  subst e
  obtain ⟨dst, h1, h2, h3⟩ := hr k hk
  obtain ⟨row, g1, g2, _, _⟩ := cell_at ok (hlt k hk) hl
  have e1 : M.getD (hm k) [] = row := by rw [List.getD_eq_getElem?_getD, g1]; rfl
  rw [e1] at h3
  obtain ⟨k', j1, j2, j3⟩ := h3 l _ g2
  have ec : cell N k l = (k', (cell M (hm k) l).2) := by
    show (N.getD k []).getD l (0, 0) = _
    rw [List.getD_eq_getElem?_getD (l := N), h1, Option.getD_some, List.getD_eq_getElem?_getD, j1]
    rfl
  rw [ec]
  exact ⟨rfl, j2, j3.symm⟩
def unN : PyData → Nat
  | .int i => i.toNat
  | _ => 0
theorem perm_nats {ys : List PyData} {xs : List Nat} (h : ys.Perm (natsD xs)) : ∃ zs : List Nat, ys = natsD zs ∧ zs.Perm xs := by
  refine ⟨ys.map unN, ?_, ?_⟩
  · unfold natsD
    rw [List.map_map]
    have e : ys.map ((fun n : Nat => PyData.int (n : Int)) ∘ unN) = ys.map id := List.map_congr_left fun y hy => by
      obtain ⟨x, _, rfl⟩ := List.mem_map.mp (h.mem_iff.mp hy)
      rfl
    rw [e, List.map_id]
  · have e := h.map unN
    have e2 : (natsD xs).map unN = xs := by
      unfold natsD
      rw [List.map_map]
      exact List.map_id'' (fun x => rfl) xs
    rw [e2] at e
    exact e
theorem mixedN {n : Int} {t : Tr} {xs : List Nat} {P : PyData → Tr → Prop} (h : TrOk n t) (hn : n ≤ 900000000) (hl : xs.length < 100) (q : ∀ (ys : List Nat) (t' : Tr), TrOk (n + 100) t' → ys.Perm xs → P (.list (natsD ys)) t') : ∃ z t2, f__law_mixed t [.list (natsD xs)] = some (z, t2) ∧ P z t2 :=
  mixed h hn (by rw [MD.nats_len]; exact hl) fun ys t' h' hp => by
    obtain ⟨zs, rfl, hz⟩ := perm_nats hp
    exact q zs t' h' hz
theorem monoN {T : Type} {f : MS T} {ρ : Env} {t : T} {N N' : Env → T → Prop} {R : PyData → T → Prop} {B C : Env → T → Prop} (h : Es f ρ t N R No No) (m : ∀ ρ t, N ρ t → N' ρ t) : Es f ρ t N' R B C := by
  obtain ⟨r, t', e, q⟩ := h
  refine ⟨r, t', e, ?_⟩
  cases r with
  | nx ρ => exact m _ _ q
  | rt d => exact q
  | bk ρ => exact q.elim
  | ct ρ => exact q.elim
theorem range_perm {c : Nat} {ys : List Nat} (hc : 0 < c) (h : ys.Perm ((List.range (c - 1)).map (1 + ·))) : (0 :: ys).Perm (List.range c) := by
  obtain ⟨k, rfl⟩ : ∃ k, c = k + 1 := ⟨c - 1, by omega⟩
  rw [List.range_succ_eq_map]
  refine List.Perm.cons 0 ?_
  have e : (List.range k).map Nat.succ = (List.range (k + 1 - 1)).map (1 + ·) := by
    rw [Nat.add_sub_cancel]
    exact List.map_congr_left fun x _ => by show x + 1 = 1 + x; omega
  rw [e]
  exact h
theorem addL_nats {as bs : List Nat} (h : as.length + bs.length ≤ 1000000) : addD (.list (natsD as)) (.list (natsD bs)) = some (.list (natsD (as ++ bs))) := by
  rw [o_ll (by rw [MD.nats_len, MD.nats_len]; exact h)]
  unfold natsD
  rw [List.map_append]
theorem neStr (x : Str) : neD (.str x) (.str x) = some (.bool false) := by
  show some (PyData.bool (!(x == x))) = _
  rw [show (x == x) = true from by simp]
  rfl
theorem eqStr (x : Str) : eqD (.str x) (.str x) = some (.bool true) := by
  show some (PyData.bool (x == x)) = _
  rw [show (x == x) = true from by simp]
theorem grown_run {many c : Nat} {M N : Mc} {hm : Nat → Nat} (ok : OkM many M) (hlt : ∀ k, k < c → hm k < M.length) (hr : ∀ k, k < c → ∃ dst, N[k]? = some dst ∧ GoodRow c hm (M.getD (hm k) []) dst) : ∀ (s : List Nat) (k : Nat), OkS many s → k < c → runS N k s < c ∧ hm (runS N k s) = runS M (hm k) s
  | [], k, _, hk => ⟨hk, rfl⟩
  | l :: r, k, o, hk => by
    obtain ⟨dst, h1, h2, h3⟩ := hr k hk
    obtain ⟨row, g1, g2, _, _⟩ := cell_at ok (hlt k hk) (o l List.mem_cons_self)
    have e1 : M.getD (hm k) [] = row := by rw [List.getD_eq_getElem?_getD, g1]; rfl
    rw [e1] at h3
    obtain ⟨k', j1, j2, j3⟩ := h3 l _ g2
    have ec : cell N k l = (k', (cell M (hm k) l).2) := by
      show (N.getD k []).getD l (0, 0) = _
      rw [List.getD_eq_getElem?_getD (l := N), h1, Option.getD_some, List.getD_eq_getElem?_getD, j1]
      rfl
    have ih := grown_run ok hlt hr r k' (fun x m => o x (List.mem_cons_of_mem _ m)) j2
    show runS N (cell N k l).1 r < c ∧ hm (runS N (cell N k l).1 r) = runS M (cell M (hm k) l).1 r
    rw [ec, ← j3]
    exact ih
end Mi.MD
namespace Mi.CN
open PySem L2

def m__first_counts : MS Unit :=
  (mRet (mBin addD (mKeep (mLst (mCons (mC (.int 1)) mNil))) (mBin mulD (mKeep (mLst (mCons (mC (.int 0)) mNil))) (mBin subD (mCall lenD (mCons (mV 0) mNil)) (mC (.int 1))))))
def f__first_counts : List PyData → Option PyData := mFun 1 [true] m__first_counts

def m__counts_behind : MS Unit :=
  (mSeq (mSet 3 (mNew (mRepL (mKeep (mLst (mCons (mC (.int 0)) mNil))) (mCall lenD (mCons (mV 0) mNil)))))
  (mSeq (mFor (mZip2 (mV 1) (mV 0)) (gT (gs1 (gN 4) (gs1 (gN 5) gs0)) 2) (mFor (mItems (mV 5)) (gT (gs1 (gN 6) (gs1 (gN 7) gs0)) 2) (mIfS (mTest (mBin inD (mV 7) (mV 2))) (mAugAt 3 addI (mV 6) (mV 4)) mSkip)))
  (mRet (mV 3))))
def f__counts_behind : List PyData → Option PyData := mFun 8 [true, true, true] m__counts_behind

def m_lots : MS Unit :=
  (mSeq (mAsg (mV 0) (gT (gs1 (gN 2) (gs1 (gN 3) gs0)) 2))
  (mSeq (mSet 4 (mRv (mCallP [true] f__first_counts (mCons (mV 3) mNil))))
  (mSeq (mFor (mRange1 (mCons (mV 1) mNil)) (gN 2) (mSet 4 (mRv (mCallP [true, true, true] f__counts_behind (mCons (mV 3) (mCons (mV 4) (mCons (mTup (mCons (mC (.int 0)) (mCons (mC (.int 1)) mNil))) mNil)))))))
  (mRet (mCall tupleD (mCons (mV 4) mNil))))))
def f_lots : List PyData → Option PyData := mFun 5 [true, true] m_lots

def m_noughts : MS Unit :=
  (mSeq (mAsg (mV 0) (gT (gs1 (gN 2) (gs1 (gN 3) gs0)) 2))
  (mSeq (mSet 4 (mRv (mCallP [true] f__first_counts (mCons (mV 3) mNil))))
  (mSeq (mFor (mRange1 (mCons (mV 1) mNil)) (gN 2) (mSet 4 (mRv (mCallP [true, true, true] f__counts_behind (mCons (mV 3) (mCons (mV 4) (mCons (mTup (mCons (mC (.int 0)) mNil)) mNil)))))))
  (mRet (mCall sumD (mCons (mV 4) mNil))))))
def f_noughts : List PyData → Option PyData := mFun 5 [true, true] m_noughts

def m_ones_at : MS Unit :=
  (mSeq (mAsg (mV 0) (gT (gs1 (gN 2) (gs1 (gN 3) gs0)) 2))
  (mRet (mCall sumD (mCons (mCallP [true, true, true] f__counts_behind (mCons (mV 3) (mCons (mCallP [true, true] f_lots (mCons (mV 0) (mCons (mV 1) mNil))) (mCons (mTup (mCons (mC (.int 1)) mNil)) mNil)))) mNil))))
def f_ones_at : List PyData → Option PyData := mFun 4 [true, true] m_ones_at

def m_ones_in_all : MS Unit :=
  (mSeq (mAsg (mV 0) (gT (gs1 (gN 2) (gs1 (gN 3) gs0)) 2))
  (mSeq (mSet 4 (mRv (mCallP [true] f__first_counts (mCons (mV 3) mNil))))
  (mSeq (mSet 5 (mRv (mC (.int 0))))
  (mSeq (mFor (mRange1 (mCons (mV 1) mNil)) (gN 6) (mSeq (mSet 5 (mRv (mBin addD (mBin shlD (mV 5) (mV 2)) (mCall sumD (mCons (mCallP [true, true, true] f__counts_behind (mCons (mV 3) (mCons (mV 4) (mCons (mTup (mCons (mC (.int 1)) mNil)) mNil)))) mNil)))))
  (mSet 4 (mRv (mCallP [true, true, true] f__counts_behind (mCons (mV 3) (mCons (mV 4) (mCons (mTup (mCons (mC (.int 0)) (mCons (mC (.int 1)) mNil))) mNil))))))))
  (mRet (mV 5))))))
def f_ones_in_all : List PyData → Option PyData := mFun 7 [true, true] m_ones_in_all

end Mi.CN
/-! How many strings lead where: what is carried on by letters beside all strings. -/
namespace Mi.CN
open PySem L2
abbrev Mch := List (List (Nat × Nat))
def addRow (b : Nat → Bool) (c : Nat) : List (Nat × Nat) → List Nat → List Nat
  | [], acc => acc
  | p :: r, acc => addRow b c r (if b p.2 then acc.set p.1 (acc.getD p.1 0 + c) else acc)
def addRows (b : Nat → Bool) : List (Nat × List (Nat × Nat)) → List Nat → List Nat
  | [], acc => acc
  | (c, row) :: r, acc => addRows b r (addRow b c row acc)
def beh (M : Mch) (b : Nat → Bool) (cs : List Nat) : List Nat := addRows b (cs.zip M) (List.replicate M.length 0)
def firstC (n : Nat) : List Nat := 1 :: List.replicate (n - 1) 0
def goC (M : Mch) (b : Nat → Bool) : Nat → List Nat
  | 0 => firstC M.length
  | k + 1 => beh M b (goC M b k)
def allB : Nat → Bool := fun _ => true
def lotsC (M : Mch) (k : Nat) : List Nat := goC M allB k
/-! ### weighted sums -/
def dot (f : Nat → Nat) : List Nat → Nat → Nat
  | [], _ => 0
  | c :: r, i => c * f i + dot f r (i + 1)
theorem dot_rep (f : Nat → Nat) : ∀ (n i : Nat), dot f (List.replicate n 0) i = 0
  | 0, _ => rfl
  | n + 1, i => by
    rw [List.replicate_succ]
    show 0 * f i + dot f (List.replicate n 0) (i + 1) = 0
    rw [dot_rep f n, Nat.zero_mul]
theorem dot_first (f : Nat → Nat) (n : Nat) : dot f (firstC n) 0 = f 0 := by
  show 1 * f 0 + dot f (List.replicate (n - 1) 0) 1 = f 0
  rw [dot_rep, Nat.one_mul]
  rfl
theorem dot_one : ∀ (cs : List Nat) (i : Nat), dot (fun _ => 1) cs i = cs.sum
  | [], _ => rfl
  | c :: r, i => by
    show c * 1 + dot (fun _ => 1) r (i + 1) = _
    rw [dot_one r, List.sum_cons, Nat.mul_one]
theorem dot_set (f : Nat → Nat) (c : Nat) : ∀ (acc : List Nat) (i j : Nat), i < acc.length → dot f (acc.set i (acc.getD i 0 + c)) j = dot f acc j + c * f (j + i)
  | [], i, j, h => absurd h (Nat.not_lt_zero _)
  | a :: r, 0, j, h => by
    show (a + c) * f j + dot f r (j + 1) = a * f j + dot f r (j + 1) + c * f (j + 0)
    rw [Nat.add_mul, show j + 0 = j from rfl]
    omega
  | a :: r, i + 1, j, h => by
    have ih := dot_set f c r i (j + 1) (Nat.lt_of_succ_lt_succ h)
    show a * f j + dot f (r.set i (r.getD i 0 + c)) (j + 1) = a * f j + dot f r (j + 1) + c * f (j + (i + 1))
    rw [ih, show j + 1 + i = j + (i + 1) by omega]
    omega
theorem addRow_len (b : Nat → Bool) (c : Nat) : ∀ (row : List (Nat × Nat)) (acc : List Nat), (addRow b c row acc).length = acc.length
  | [], _ => rfl
  | p :: r, acc => by
    show (addRow b c r _).length = _
    rw [addRow_len b c r]
    split
    · rw [List.length_set]
    · rfl
theorem addRows_len (b : Nat → Bool) : ∀ (zs : List (Nat × List (Nat × Nat))) (acc : List Nat), (addRows b zs acc).length = acc.length
  | [], _ => rfl
  | (c, row) :: r, acc => by
    show (addRows b r _).length = _
    rw [addRows_len b r, addRow_len]
theorem beh_len (M : Mch) (b : Nat → Bool) (cs : List Nat) : (beh M b cs).length = M.length := by
  unfold beh
  rw [addRows_len, List.length_replicate]
theorem first_len {n : Nat} (h : 0 < n) : (firstC n).length = n := by
  show (List.replicate (n - 1) 0).length + 1 = n
  rw [List.length_replicate]
  omega
theorem goC_len {M : Mch} (h : 0 < M.length) (b : Nat → Bool) : ∀ k, (goC M b k).length = M.length
  | 0 => first_len h
  | k + 1 => beh_len M b _
theorem lots_len {M : Mch} (h : 0 < M.length) (k : Nat) : (lotsC M k).length = M.length := goC_len h allB k
def rowS (f : Nat → Nat) (b : Nat → Bool) (row : List (Nat × Nat)) : Nat := (row.map fun p => if b p.2 then f p.1 else 0).sum
theorem dot_addRow (f : Nat → Nat) (b : Nat → Bool) (c : Nat) : ∀ (row : List (Nat × Nat)) (acc : List Nat), (∀ p ∈ row, p.1 < acc.length) → dot f (addRow b c row acc) 0 = dot f acc 0 + c * rowS f b row
  | [], acc, _ => by show dot f acc 0 = dot f acc 0 + c * 0; omega
  | p :: r, acc, h => by
    have hp := h p (List.mem_cons_self ..)
    show dot f (addRow b c r (if b p.2 then acc.set p.1 (acc.getD p.1 0 + c) else acc)) 0 = _
    unfold rowS
    rw [List.map_cons, List.sum_cons]
    cases hb : b p.2 with
    | true =>
      rw [if_pos rfl, if_pos rfl, dot_addRow f b c r _ (fun q m => by rw [List.length_set]; exact h q (List.mem_cons_of_mem _ m)), dot_set f c acc p.1 0 hp, Nat.zero_add, Nat.mul_add]
      unfold rowS
      omega
    | false =>
      rw [if_neg (by decide), if_neg (by decide), dot_addRow f b c r _ (fun q m => h q (List.mem_cons_of_mem _ m)), Nat.zero_add]
      rfl
def zdot (f : Nat → Nat) (b : Nat → Bool) : List Nat → Mch → Nat
  | c :: cs, r :: rs => c * rowS f b r + zdot f b cs rs
  | _, _ => 0
theorem dot_addRows (f : Nat → Nat) (b : Nat → Bool) : ∀ (cs : List Nat) (rows : Mch) (acc : List Nat), (∀ r ∈ rows, ∀ p ∈ r, p.1 < acc.length) → dot f (addRows b (cs.zip rows) acc) 0 = dot f acc 0 + zdot f b cs rows
  | [], _, acc, _ => by show dot f acc 0 = dot f acc 0 + 0; rfl
  | _ :: _, [], acc, _ => by show dot f acc 0 = dot f acc 0 + 0; rfl
  | c :: cs, r :: rs, acc, h => by
    rw [List.zip_cons_cons]
    show dot f (addRows b (cs.zip rs) (addRow b c r acc)) 0 = dot f acc 0 + (c * rowS f b r + zdot f b cs rs)
    rw [dot_addRows f b cs rs _ (fun q m p mp => by rw [addRow_len]; exact h q (List.mem_cons_of_mem _ m) p mp), dot_addRow f b c r acc (h r (List.mem_cons_self ..))]
    omega
theorem zdot_dot (f : Nat → Nat) (b : Nat → Bool) (M : Mch) : ∀ (cs : List Nat) (rows : Mch) (k : Nat), rows = M.drop k → cs.length = rows.length → zdot f b cs rows = dot (fun s => rowS f b (M.getD s [])) cs k
  | [], _, _, _, _ => by cases ‹Mch› <;> rfl
  | c :: cs, [], _, _, h => by cases h
  | c :: cs, r :: rs, k, e, h => by
    have hr : M.getD k [] = r := by
      have := congrArg List.head? e
      rw [List.head?_cons, List.head?_drop] at this
      rw [List.getD_eq_getElem?_getD, ← this]
      rfl
    have hd : rs = M.drop (k + 1) := by
      have := congrArg List.tail e
      rw [List.tail_cons, List.tail_drop] at this
      exact this
    show c * rowS f b r + zdot f b cs rs = c * rowS f b (M.getD k []) + dot _ cs (k + 1)
    rw [hr, zdot_dot f b M cs rs (k + 1) hd (Nat.succ.inj h)]
section
variable {many : Nat} {M : Mch}
theorem dot_beh (ok : OkM many M) (f : Nat → Nat) (b : Nat → Bool) {cs : List Nat} (h : cs.length = M.length) : dot f (beh M b cs) 0 = dot (fun s => rowS f b (M.getD s [])) cs 0 := by
  unfold beh
  rw [dot_addRows f b cs M _ (fun r m p mp => by rw [List.length_replicate]; exact (ok.row r m).goal p mp), dot_rep, Nat.zero_add]
  exact zdot_dot f b M cs M 0 rfl h
theorem map_range_getD (row : List (Nat × Nat)) {L : Nat} (h : row.length = L) : row = (List.range L).map fun l => row.getD l (0, 0) := by
  apply List.ext_getElem?
  intro i
  rw [List.getElem?_map]
  by_cases hi : i < L
  · rw [List.getElem?_range hi, List.getElem?_eq_getElem (by omega), Option.map_some, List.getD_eq_getElem?_getD, List.getElem?_eq_getElem (by omega), Option.getD_some]
  · rw [List.getElem?_eq_none (by omega), List.getElem?_eq_none (by rw [List.length_range]; omega)]
    rfl
theorem rowS_cell (ok : OkM many M) (f : Nat → Nat) (b : Nat → Bool) {s : Nat} (hs : s < M.length) : rowS f b (M.getD s []) = ((List.range (2 ^ many)).map fun l => if b (cell M s l).2 then f (cell M s l).1 else 0).sum := by
  have h1 : M[s]? = some M[s] := List.getElem?_eq_getElem hs
  have r := ok.row M[s] (List.getElem_mem hs)
  have e : M.getD s [] = M[s] := by rw [List.getD_eq_getElem?_getD, h1]; rfl
  unfold rowS
  rw [e]
  have : M[s].map (fun p => if b p.2 then f p.1 else 0) = (List.range (2 ^ many)).map fun l => if b (cell M s l).2 then f (cell M s l).1 else 0 := by
    rw [show M[s].map (fun p => if b p.2 then f p.1 else 0) = ((List.range (2 ^ many)).map fun l => M[s].getD l (0, 0)).map (fun p => if b p.2 then f p.1 else 0) from congrArg _ (map_range_getD M[s] r.len), List.map_map]
    refine List.map_congr_left fun l _ => ?_
    show (if b (M[s].getD l (0, 0)).2 then f (M[s].getD l (0, 0)).1 else 0) = _
    unfold cell
    rw [e]
  rw [this]
end
/-! ### all strings -/
def stgs (many : Nat) : Nat → List (List Nat)
  | 0 => [[]]
  | k + 1 => (stgs many k).flatMap fun s => (List.range (2 ^ many)).map fun l => s ++ [l]
theorem stgs_ok (many : Nat) : ∀ (k : Nat) (s : List Nat), s ∈ stgs many k → OkS many s ∧ s.length = k
  | 0, s, h => by cases List.mem_singleton.mp h; exact ⟨fun _ m => (nomatch m), rfl⟩
  | k + 1, s, h => by
    obtain ⟨x, hx, hs⟩ := List.mem_flatMap.mp h
    obtain ⟨l, hl, rfl⟩ := List.mem_map.mp hs
    obtain ⟨h1, h2⟩ := stgs_ok many k x hx
    refine ⟨fun y m => ?_, by rw [List.length_append, h2]; rfl⟩
    rcases List.mem_append.mp m with m | m
    · exact h1 y m
    · cases List.mem_singleton.mp m; exact List.mem_range.mp hl
theorem sum_flat {α β : Type} (F : β → Nat) (g : α → List β) : ∀ xs : List α, ((xs.flatMap g).map F).sum = (xs.map fun x => ((g x).map F).sum).sum
  | [] => rfl
  | x :: r => by
    rw [List.flatMap_cons, List.map_append, List.sum_append, sum_flat F g r, List.map_cons, List.sum_cons]
theorem sum_stgs (many : Nat) (F : List Nat → Nat) (k : Nat) : ((stgs many (k + 1)).map F).sum = ((stgs many k).map fun s => ((List.range (2 ^ many)).map fun l => F (s ++ [l])).sum).sum := by
  show (((stgs many k).flatMap fun s => (List.range (2 ^ many)).map fun l => s ++ [l]).map F).sum = _
  rw [sum_flat]
  congr 1
  refine List.map_congr_left fun s _ => ?_
  rw [List.map_map]
  rfl
theorem sum_congr {α : Type} {f g : α → Nat} {xs : List α} (h : ∀ x ∈ xs, f x = g x) : (xs.map f).sum = (xs.map g).sum := by
  rw [List.map_congr_left h]
theorem sum_const {α : Type} (c : Nat) : ∀ xs : List α, (xs.map fun _ => c).sum = xs.length * c
  | [] => by rw [List.map_nil, List.length_nil, Nat.zero_mul]; rfl
  | x :: r => by
    rw [List.map_cons, List.sum_cons, sum_const c r, List.length_cons, Nat.add_mul, Nat.one_mul, Nat.add_comm]
theorem sum_add {α : Type} (f g : α → Nat) : ∀ xs : List α, (xs.map fun x => f x + g x).sum = (xs.map f).sum + (xs.map g).sum
  | [] => rfl
  | x :: r => by
    rw [List.map_cons, List.sum_cons, sum_add f g r, List.map_cons, List.sum_cons, List.map_cons, List.sum_cons]
    omega
theorem sum_mul {α : Type} (c : Nat) (f : α → Nat) : ∀ xs : List α, (xs.map fun x => c * f x).sum = c * (xs.map f).sum
  | [] => rfl
  | x :: r => by
    rw [List.map_cons, List.sum_cons, sum_mul c f r, List.map_cons, List.sum_cons, Nat.mul_add]
theorem sum_zero {α : Type} (xs : List α) : (xs.map fun _ => 0).sum = 0 := by rw [sum_const, Nat.mul_zero]
theorem stgs_len (many : Nat) : ∀ k, (stgs many k).length = 2 ^ (many * k)
  | 0 => by rw [Nat.mul_zero]; rfl
  | k + 1 => by
    have h := sum_stgs many (fun _ => 1) k
    rw [sum_const, Nat.mul_one] at h
    rw [h]
    have : ∀ s : List Nat, ((List.range (2 ^ many)).map fun _ => 1).sum = 2 ^ many := fun _ => by rw [sum_const, List.length_range, Nat.mul_one]
    rw [sum_congr (g := fun _ => 2 ^ many) fun s _ => this s, sum_const, stgs_len many k, Nat.mul_succ, Nat.pow_add]
section
variable {many : Nat} {M : Mch}
theorem lots_sum (ok : OkM many M) : ∀ (k : Nat) (f : Nat → Nat), dot f (lotsC M k) 0 = ((stgs many k).map fun s => f (runS M 0 s)).sum
  | 0, f => by
    show dot f (firstC M.length) 0 = ([[]].map fun s => f (runS M 0 s)).sum
    rw [dot_first]
    rfl
  | k + 1, f => by
    show dot f (beh M allB (lotsC M k)) 0 = _
    rw [dot_beh ok f allB (lots_len ok.pos k), lots_sum ok k, sum_stgs]
    refine sum_congr fun s m => ?_
    obtain ⟨h1, _⟩ := stgs_ok many k s m
    rw [rowS_cell ok f allB (runS_lt ok s 0 ok.pos h1)]
    refine sum_congr fun l _ => ?_
    rw [runS_snoc]
    rfl
theorem nought_sum (ok : OkM many M) : ∀ (k : Nat) (f : Nat → Nat), dot f (goC M (fun q => q == 0) k) 0 = ((stgs many k).map fun s => if outW M 0 s 0 = 0 then f (runS M 0 s) else 0).sum
  | 0, f => by
    show dot f (firstC M.length) 0 = ([[]].map fun s => if outW M 0 s 0 = 0 then f (runS M 0 s) else 0).sum
    rw [dot_first]
    rfl
  | k + 1, f => by
    show dot f (beh M _ (goC M (fun q => q == 0) k)) 0 = _
    rw [dot_beh ok f _ (goC_len ok.pos _ k), nought_sum ok k, sum_stgs]
    refine sum_congr fun s m => ?_
    obtain ⟨h1, h2⟩ := stgs_ok many k s m
    by_cases h0 : outW M 0 s 0 = 0
    · rw [if_pos h0, rowS_cell ok f _ (runS_lt ok s 0 ok.pos h1)]
      refine sum_congr fun l _ => ?_
      rw [runS_snoc, outW_snoc, h0, Nat.zero_add]
      by_cases hb : (cell M (runS M 0 s) l).2 = 0
      · rw [hb, if_pos (by decide), if_pos (by rw [Nat.zero_mul])]
      · rw [if_neg (by simpa using hb), if_neg]
        intro z
        rcases Nat.mul_eq_zero.mp z with z | z
        · exact hb z
        · exact absurd z (Nat.ne_of_gt (Nat.pow_pos (by decide)))
    · rw [if_neg h0]
      refine Eq.symm ((sum_congr (g := fun _ => 0) fun l _ => ?_).trans (sum_zero _))
      rw [outW_snoc, if_neg (by omega)]
/-- the last bit of a string's word -/
def lastB (M : Mch) (s : List Nat) : Nat := (outW M 0 s 0) / 2 ^ (s.length - 1)
theorem last_snoc (ok : OkM many M) {s : List Nat} {l : Nat} (h : OkS many s) (hl : l < 2 ^ many) : lastB M (s ++ [l]) = (cell M (runS M 0 s) l).2 := by
  have lt := outW_lt ok s 0 0 ok.pos h
  rw [Nat.zero_add] at lt
  unfold lastB
  rw [outW_snoc, Nat.zero_add, List.length_append, List.length_singleton, Nat.add_sub_cancel, Nat.add_mul_div_right _ _ (Nat.pow_pos (by decide)), Nat.div_eq_of_lt (by omega), Nat.zero_add]
theorem bit_one (ok : OkM many M) {s l : Nat} (hs : s < M.length) (hl : l < 2 ^ many) : (if ((cell M s l).2 == 1) = true then 1 else 0) = (cell M s l).2 := by
  obtain ⟨_, _, _, _, h⟩ := cell_at ok hs hl
  by_cases h1 : (cell M s l).2 = 1
  · rw [h1]; rfl
  · have : (cell M s l).2 = 0 := by omega
    rw [this]; rfl
theorem onesAt_sum (ok : OkM many M) (k : Nat) : (beh M (fun q => q == 1) (lotsC M k)).sum = ((stgs many (k + 1)).map (lastB M)).sum := by
  rw [← dot_one _ 0, dot_beh ok _ _ (lots_len ok.pos k), lots_sum ok k, sum_stgs]
  refine sum_congr fun s m => ?_
  obtain ⟨h1, _⟩ := stgs_ok many k s m
  have hs := runS_lt ok s 0 ok.pos h1
  rw [rowS_cell ok _ _ hs]
  refine sum_congr fun l hl => ?_
  rw [last_snoc ok h1 (List.mem_range.mp hl)]
  exact bit_one ok hs (List.mem_range.mp hl)
/-- ones of a word -/
def pop (x w : Nat) : Nat := ((List.range w).map (bitN x)).sum
def onesC (M : Mch) (many : Nat) : Nat → Nat
  | 0 => 0
  | k + 1 => onesC M many k * 2 ^ many + (beh M (fun q => q == 1) (lotsC M k)).sum
theorem pop_snoc (ok : OkM many M) {s : List Nat} {l : Nat} (h : OkS many s) (hl : l < 2 ^ many) : pop (outW M 0 (s ++ [l]) 0) (s.length + 1) = pop (outW M 0 s 0) s.length + (cell M (runS M 0 s) l).2 := by
  have lt := outW_lt ok s 0 0 ok.pos h
  rw [Nat.zero_add] at lt
  obtain ⟨_, _, _, _, hb⟩ := cell_at ok (runS_lt ok s 0 ok.pos h) hl
  unfold pop
  rw [List.range_succ, List.map_append, List.sum_append, outW_snoc, Nat.zero_add]
  generalize outW M 0 s 0 = x at lt
  generalize (cell M (runS M 0 s) l).2 = q at hb
  congr 1
  · refine sum_congr fun i hi => ?_
    have hi := List.mem_range.mp hi
    have e : (x + q * 2 ^ s.length) % 2 ^ s.length = x % 2 ^ s.length := Nat.add_mul_mod_self_right ..
    rw [← bitN_low (w := x + q * 2 ^ s.length) hi, e, bitN_low hi]
  · show ([s.length].map (bitN (x + q * 2 ^ s.length))).sum = q
    rw [List.map_cons, List.map_nil, List.sum_cons, List.sum_nil, Nat.add_zero]
    unfold bitN
    rw [Nat.add_mul_div_right _ _ (Nat.pow_pos (by decide)), Nat.div_eq_of_lt (by omega), Nat.zero_add, Nat.mod_eq_of_lt hb]
theorem ones_sum (ok : OkM many M) : ∀ k, onesC M many k = ((stgs many k).map fun s => pop (outW M 0 s 0) k).sum
  | 0 => rfl
  | k + 1 => by
    show onesC M many k * 2 ^ many + (beh M (fun q => q == 1) (lotsC M k)).sum = _
    rw [ones_sum ok k, onesAt_sum ok k, sum_stgs, sum_stgs, Nat.mul_comm, ← sum_mul, ← sum_add]
    refine sum_congr fun s m => ?_
    obtain ⟨h1, h2⟩ := stgs_ok many k s m
    have : 2 ^ many * pop (outW M 0 s 0) k = ((List.range (2 ^ many)).map fun _ => pop (outW M 0 s 0) k).sum := by rw [sum_const, List.length_range]
    rw [this, ← sum_add]
    refine sum_congr fun l hl => ?_
    have hl := List.mem_range.mp hl
    have e := pop_snoc ok h1 hl
    rw [h2] at e
    rw [e, last_snoc ok h1 hl]
end
/-! ### lists by their weighted sums -/
theorem dot_shift (f : Nat → Nat) : ∀ (cs : List Nat) (i : Nat), dot f cs (i + 1) = dot (fun k => f (k + 1)) cs i
  | [], _ => rfl
  | c :: r, i => by
    show c * f (i + 1) + dot f r (i + 1 + 1) = c * f (i + 1) + dot (fun k => f (k + 1)) r (i + 1)
    rw [dot_shift f r (i + 1)]
theorem dot_zero : ∀ (cs : List Nat) (i : Nat), dot (fun _ => 0) cs i = 0
  | [], _ => rfl
  | c :: r, i => by
    show c * 0 + dot (fun _ => 0) r (i + 1) = 0
    rw [dot_zero r]
    rfl
theorem ext_dot : ∀ (as bs : List Nat), as.length = bs.length → (∀ f, dot f as 0 = dot f bs 0) → as = bs
  | [], [], _, _ => rfl
  | [], _ :: _, h, _ => by cases h
  | _ :: _, [], h, _ => by cases h
  | a :: as, b :: bs, h, e => by
    have e0 := e fun k => if k = 0 then 1 else 0
    have z : ∀ cs : List Nat, dot (fun k => if k = 0 then 1 else 0) cs (0 + 1) = 0 := fun cs => by
      rw [dot_shift]
      exact (show dot (fun k => if k + 1 = 0 then 1 else 0) cs 0 = dot (fun _ => 0) cs 0 by congr) ▸ dot_zero cs 0
    have e1 : a * 1 + dot (fun k => if k = 0 then 1 else 0) as (0 + 1) = b * 1 + dot (fun k => if k = 0 then 1 else 0) bs (0 + 1) := e0
    rw [z, z] at e1
    have hab : a = b := by omega
    subst hab
    congr 1
    refine ext_dot as bs (Nat.succ.inj h) fun f => ?_
    have e2 := e fun k => f (k - 1)
    have e2 : a * f (0 - 1) + dot (fun k => f (k - 1)) as (0 + 1) = a * f (0 - 1) + dot (fun k => f (k - 1)) bs (0 + 1) := e2
    rw [dot_shift, dot_shift] at e2
    exact Nat.add_left_cancel e2
/-! ### how great -/
theorem le_sum : ∀ (cs : List Nat) (c : Nat), c ∈ cs → c ≤ cs.sum
  | [], _, m => (nomatch m)
  | x :: r, c, m => by
    rw [List.sum_cons]
    rcases List.mem_cons.mp m with rfl | m
    · omega
    · have := le_sum r c m
      omega
theorem lots_total {many : Nat} {M : Mch} (ok : OkM many M) (k : Nat) : (lotsC M k).sum = 2 ^ (many * k) := by
  rw [← dot_one _ 0, lots_sum ok k, sum_const, stgs_len, Nat.mul_one]
end Mi.CN
/-! What the counts tell. -/
namespace Mi.CN
open PySem L2 TI
local macro_rules | `(tactic| walk_at "op") => `(tactic| with_reducible first
  | exact o_add | exact o_addI | exact o_sub | exact o_lt | exact o_le | exact o_gt | exact o_ge | exact o_eqI | exact o_neI | exact o_eqS | exact o_neS | exact o_neg | exact o_inv | exact o_and | exact o_or | exact o_xor
  | exact o_int | exact o_intB | exact o_abs | exact o_tupL | exact o_tupT | exact o_lenL | exact o_lenT | exact o_isN | exact o_isNotN)
local macro_rules | `(tactic| walk_at "ix") => `(tactic| ((with_reducible apply o_ixA); (first | apply o_ixL | apply o_ixT | apply o_dixS); focus rfl))
local macro_rules | `(tactic| walk_at "op2") => `(tactic| first
  | ((with_reducible apply o_inA); focus rfl)
  | ((with_reducible apply o_notInA); focus rfl)
  | (with_reducible (first | refine o_addL ?_ | refine o_addT ?_); simp only [List.length_cons, List.length_nil]; decide)
  | ((with_reducible apply o_modA); focus (exact mod_ok (by decide)))
  | ((with_reducible apply o_fdivA); focus (exact o_fdiv (by decide) (by decide))))
local macro_rules | `(tactic| walk_at "call") => `(tactic| fail)
local macro_rules | `(tactic| walk_at "s") => `(tactic| first
  | ((with_reducible apply s_set_env); focus (dsimp only [List.set] <;> rfl))
  | ((with_reducible apply f_callPK); (focus rfl); (focus rfl))
  | with_reducible first
    | refine s_seq ?_ | refine d_f (f_bin ?_) | refine d_f (f_c ?_) | refine s_set ?_ | refine v_rv ?_ | refine s_if ?_ | refine b_test ?_ | refine f_bin ?_ | refine f_c ?_ | refine s_ret ?_ | refine s_skip ?_
    | refine r_cons ?_ | refine r_nil ?_ | refine a_consT ?_ | refine a_nil ?_ | refine k_cons ?_ | refine k_nil ?_ | refine a_consF ?_
    | refine f_call ?_ | refine f_callP ?_ | refine f_keep ?_ | refine f_tup ?_ | refine f_if ?_ | refine f_andV ?_ | refine f_orV ?_ | refine f_notV ?_ | refine f_isi ?_ | refine f_sl ?_ | refine f_un ?_ | refine f_chain ?_
    | refine b_and ?_ | refine b_or ?_ | refine b_not ?_ | refine b_yes ?_
    | refine s_asg ?_ | refine s_app ?_ | refine s_par ?_ | refine s_pars ?_ | refine s_drop ?_ | refine s_retN ?_ | refine s_break ?_ | refine s_cont ?_ | refine s_end ?_ | refine s_setP ?_ | refine s_dropP ?_ | refine s_appP ?_ | refine p_at ?_ | refine p_end ?_ | refine s_par3 ?_ | refine ex_three ?_ | refine i_zip ?_ | refine zz_L ?_ | refine zz_T ?_ | refine l_revL ?_ | refine ex_lst ?_
    | refine l_lst ?_ | refine l_dict ?_ | refine l_listL ?_ | refine o_no ?_ | refine o_part ?_ | refine i_enum ?_ | refine i_range1 ?_ | refine v_new ?_ | refine vs_nil ?_ | refine vs_cons ?_
  | ((with_reducible apply d_v); focus rfl)
  | ((with_reducible apply f_v); focus rfl)
  | ((with_reducible apply s_aug); focus rfl)
  | ((with_reducible apply f_callT); focus rfl)
  | ((with_reducible apply w_b); (focus rfl))
  | ((with_reducible apply i_itemsB); (focus rfl); (focus rfl))
  | with_reducible first | refine d_f ?_ | refine w_f ?_ | refine i_items ?_
  | ((with_reducible refine if_yes ?_ ?_); focus rfl)
  | ((with_reducible refine if_no ?_ ?_); focus rfl)
  | ((with_reducible apply op_ok); focus (first | walk_at "op" | walk_at "ix" | walk_at "op2"))
  | ((with_reducible refine len_ok ?_ ?_); focus (simp only [List.length_cons, List.length_nil]; decide))
  | ((with_reducible refine pk_ok ?_ ?_); focus rfl)
  | ((with_reducible refine lt_ok ?_ ?_); focus (simp only [List.length_append, List.length_cons, List.length_nil]; decide))
  | ((with_reducible refine dict_ok ?_ ?_); focus (exact ⟨rfl, by decide, by decide⟩))
  | ((with_reducible refine par_ok ?_ ?_); focus (refine ⟨?_, rfl⟩; simp only [List.length_cons, List.length_nil]; decide))
  | walk_at "call"
  | with_reducible first | refine ex_bool ?_ | refine ex_int ?_ | refine ex_itL ?_ | refine ex_itT ?_ | refine ex_rng ?_ | refine ex_two ?_ | refine ex_lstL ?_ | refine ex_lstT ?_
  | ((with_reducible apply ex_env); focus rfl)
  | ((with_reducible apply ex_own); focus rfl))
local macro_rules | `(tactic| walk_at "call") => `(tactic| with_reducible first | refine i_zip2 ?_ | refine l_repL ?_ | refine s_augAt ?_ | refine zz2_L ?_ | refine zz2_T ?_ | refine zz2_X ?_)
theorem nats_set (acc : List Nat) (n v : Nat) : (natsD acc).set n (.int (v : Int)) = natsD (acc.set n v) := by
  unfold natsD
  rw [List.map_set]
theorem nats_get {acc : List Nat} {n : Nat} (h : n < acc.length) : (natsD acc)[n]? = some (.int (acc.getD n 0 : Nat)) := by
  unfold natsD
  rw [List.getElem?_map, List.getElem?_eq_getElem h, List.getD_eq_getElem?_getD, List.getElem?_eq_getElem h]
  rfl
theorem nats_len (acc : List Nat) : (natsD acc).length = acc.length := List.length_map _
theorem nats_rep (n v : Nat) : List.replicate n (PyData.int (v : Int)) = natsD (List.replicate n v) := by
  unfold natsD
  rw [List.map_replicate]
theorem flat_nats : ∀ bs : List Nat, (natsD bs).all flatP = true
  | [] => rfl
  | b :: r => by
    show (true && (natsD r).all flatP) = true
    rw [flat_nats r]
    rfl
theorem any_nats (q : Nat) : ∀ bs : List Nat, (natsD bs).any (fun d => PyData.eqv d (.int (q : Int))) = bs.contains q
  | [] => rfl
  | b :: r => by
    show ((((b : Int) == (q : Int))) || (natsD r).any fun d => PyData.eqv d (.int (q : Int))) = _
    rw [any_nats q r, List.contains_cons]
    congr 1
    rw [Bool.eq_iff_iff, beq_iff_eq, beq_iff_eq]
    omega
theorem in_nats (q : Nat) (bs : List Nat) : inD (.int (q : Int)) (.tuple (natsD bs)) = some (.bool (bs.contains q)) := by
  show (if (true && (natsD bs).all flatP) = true then some (PyData.bool ((natsD bs).any fun d => PyData.eqv d (.int (q : Int)))) else none) = _
  rw [if_pos (by rw [flat_nats]; rfl), any_nats]
theorem zipL_nats : ∀ (cs : List Nat) (M : Mch), zipL (natsD cs) (M.map rowD) = (cs.zip M).map fun z => .tuple [.int (z.1 : Int), rowD z.2]
  | [], M => by cases M <;> rfl
  | c :: cs, [] => rfl
  | c :: cs, r :: M => by
    show PyData.tuple [.int (c : Int), rowD r] :: zipL (natsD cs) (M.map rowD) = _
    rw [zipL_nats cs M]
    rfl
theorem ints_nats : ∀ cs : List Nat, intsOf (natsD cs) = some (cs.map fun (n : Nat) => (n : Int))
  | [] => rfl
  | c :: r => by
    show intsOf (PyData.int (c : Int) :: natsD r) = _
    unfold intsOf
    rw [ints_nats r]
    rfl
theorem sumI_nats : ∀ (cs : List Nat), (cs.map fun (n : Nat) => (n : Int)).sum = ((cs.sum : Nat) : Int)
  | [] => rfl
  | c :: r => by
    rw [List.map_cons, List.sum_cons, List.sum_cons, sumI_nats r]
    push_cast
    rfl
theorem rep_flat (d : PyData) : ∀ n : Nat, (List.replicate n [d]).flatten = List.replicate n d
  | 0 => rfl
  | n + 1 => by
    rw [List.replicate_succ, List.flatten_cons, rep_flat d n, List.replicate_succ]
    rfl
theorem addI_nat (a c : Nat) : addI (.int (a : Int)) (.int (c : Int)) = some (.int ((a + c : Nat) : Int)) := by
  show some (PyData.int ((a : Int) + c)) = _
  push_cast
  rfl
section
variable {many : Nat} {M : Mch}
abbrev rowsD (M : Mch) : PyData := .tuple (M.map rowD)
abbrev eB (M : Mch) (d : PyData) (bs : List Nat) (acc : List Nat) (x4 x5 x6 x7 : Option Val) : Env := [some (.bor (rowsD M)), some (.bor d), some (.bor (.tuple (natsD bs))), some (.own (.list (natsD acc))), x4, x5, x6, x7]
def bIn (bs : List Nat) : Nat → Bool := fun q => bs.contains q
def seqOf (t : Bool) (cs : List Nat) : PyData := if t then .tuple (natsD cs) else .list (natsD cs)
theorem behind (ok : OkM many M) (hM : M.length ≤ 1000) {cs bs : List Nat} (h : cs.length = M.length) (t : Bool) : f__counts_behind [rowsD M, seqOf t cs, .tuple (natsD bs)] = some (.list (natsD (beh M (bIn bs) cs))) := by
  refine fun_ok ?_
  refine s_env (ρ' := [some (.bor (rowsD M)), some (.bor (seqOf t cs)), some (.bor (.tuple (natsD bs))), none, none, none, none, none]) rfl ?_
  unfold m__counts_behind
  have el : lenD [rowsD M] = some (.int ((M.length : Nat) : Int)) := by
    show some (PyData.int (((M.map rowD).length : Nat) : Int)) = _
    rw [List.length_map]
  have er : repLD (.list [.int 0]) (.int ((M.length : Nat) : Int)) = some (.list (natsD (List.replicate M.length 0))) := by
    rw [repLD_ok (by simp only [List.length_cons, List.length_nil]; omega) (by omega), rep_flat]
    exact congrArg (fun z => some (PyData.list z)) (nats_rep M.length 0)
  repeat (first | with_reducible (first | refine op_ok el ?_ | refine op_ok er ?_) | walk_at "s")
  refine s_for (fun j ρ _ => ∃ acc x4 x5 x6 x7, ρ = eB M (seqOf t cs) bs acc x4 x5 x6 x7 ∧ acc.length = M.length ∧ addRows (bIn bs) ((cs.zip M).drop j) acc = beh M (bIn bs) cs) ?_
  have inner : ∀ {c : Nat} {row : List (Nat × Nat)} {acc : List Nat} {x6 x7 : Option Val} {N B C : Env → Unit → Prop} {R : PyData → Unit → Prop}, acc.length = M.length → (∀ p ∈ row, p.1 < M.length) → (∀ x6 x7, N (eB M (seqOf t cs) bs (addRow (bIn bs) c row acc) (some (.fro (.int (c : Nat)))) (some (.fro (.tuple (row.map pairD)))) x6 x7) ()) →
      Es (mFor (mItems (mV 5)) (gT (gs1 (gN 6) (gs1 (gN 7) gs0)) 2) (mIfS (mTest (mBin inD (mV 7) (mV 2))) (mAugAt 3 addI (mV 6) (mV 4)) mSkip)) (eB M (seqOf t cs) bs acc (some (.fro (.int (c : Nat)))) (some (.fro (.tuple (row.map pairD)))) x6 x7) () N R B C := by
    intro c row acc x6 x7 N B C R hl hg q
    refine s_for (fun j ρ _ => ∃ acc' x6 x7, ρ = eB M (seqOf t cs) bs acc' (some (.fro (.int (c : Nat)))) (some (.fro (.tuple (row.map pairD)))) x6 x7 ∧ acc'.length = M.length ∧ addRow (bIn bs) c (row.drop j) acc' = addRow (bIn bs) c row acc) ?_
    repeat (first | walk_at "s")
    refine ⟨⟨acc, _, _, rfl, hl, rfl⟩, ?_, ?_⟩
    · rintro j d ρ ⟨⟩ hj ⟨acc', y6, y7, rfl, hl', hf⟩
      rw [List.getElem?_map] at hj
      cases hp : row[j]? with
      | none => rw [hp] at hj; cases hj
      | some p =>
        rw [hp] at hj
        cases hj
        have hgp := hg p (List.mem_of_getElem? hp)
        rw [drop_at hp] at hf
        refine ex_env rfl ?_
        repeat (first | with_reducible (first | refine op_ok (in_nats p.2 bs) ?_) | walk_at "s")
        refine if_both (fun hb => ?_) (fun hb => ?_)
        · repeat (first | walk_at "s")
          refine ⟨p.1, rfl, natsD acc', rfl, _, nats_get (by omega), ?_⟩
          repeat (first | with_reducible (first | refine op_ok (addI_nat _ c) ?_) | walk_at "s")
          refine ⟨acc'.set p.1 (acc'.getD p.1 0 + c), some (.fro (.int (p.1 : Nat))), some (.fro (.int (p.2 : Nat))), ?_, by rw [List.length_set]; exact hl', ?_⟩
          · show _ = eB M (seqOf t cs) bs _ _ _ _ _
            unfold eB
            rw [← nats_set]
            rfl
          · have hf : addRow (bIn bs) c (row.drop (j + 1)) (if bIn bs p.2 then acc'.set p.1 (acc'.getD p.1 0 + c) else acc') = _ := hf
            rw [if_pos (show bIn bs p.2 = true from hb)] at hf
            exact hf
        · repeat (first | walk_at "s")
          refine ⟨acc', _, _, rfl, hl', ?_⟩
          have hf : addRow (bIn bs) c (row.drop (j + 1)) (if bIn bs p.2 then acc'.set p.1 (acc'.getD p.1 0 + c) else acc') = _ := hf
          rw [if_neg (show ¬ bIn bs p.2 = true by rw [show bIn bs p.2 = false from hb]; decide)] at hf
          exact hf
    · rintro ρ ⟨⟩ ⟨acc', y6, y7, rfl, hl', hf⟩
      rw [List.length_map, List.drop_length] at hf
      have hf : acc' = addRow (bIn bs) c row acc := hf
      subst hf
      exact q y6 y7
  have go : Eg (mZip2 (mV 1) (mV 0)) (eB M (seqOf t cs) bs (List.replicate M.length 0) none none none none) () fun ds t1 => ds = (cs.zip M).map fun z => .tuple [.int (z.1 : Int), rowD z.2] := by
    rw [← zipL_nats]
    cases t
    · show Eg (mZip2 (mV 1) (mV 0)) [some (.bor (rowsD M)), some (.bor (.list (natsD cs))), some (.bor (.tuple (natsD bs))), some (.own (.list (natsD (List.replicate M.length 0)))), none, none, none, none] () _
      repeat (first | walk_at "s")
      rfl
    · show Eg (mZip2 (mV 1) (mV 0)) [some (.bor (rowsD M)), some (.bor (.tuple (natsD cs))), some (.bor (.tuple (natsD bs))), some (.own (.list (natsD (List.replicate M.length 0)))), none, none, none, none] () _
      repeat (first | walk_at "s")
      rfl
  refine go.mono fun ds t1 hds => ?_
  subst hds
  refine ⟨⟨_, _, _, _, _, rfl, List.length_replicate .., rfl⟩, ?_, ?_⟩
  · rintro j d ρ ⟨⟩ hj ⟨acc, y4, y5, y6, y7, rfl, hl, hf⟩
    rw [List.getElem?_map] at hj
    cases hz : (cs.zip M)[j]? with
    | none => rw [hz] at hj; cases hj
    | some z =>
      rw [hz] at hj
      cases hj
      obtain ⟨c, row⟩ := z
      rw [drop_at hz] at hf
      have hm := (List.of_mem_zip (List.mem_of_getElem? hz)).2
      refine ex_env rfl ?_
      refine s_env (ρ' := eB M (seqOf t cs) bs acc (some (.fro (.int (c : Nat)))) (some (.fro (.tuple (row.map pairD)))) y6 y7) rfl ?_
      exact inner hl (fun p mp => (ok.row row hm).goal p mp) fun x6 x7 => ⟨_, _, _, _, _, rfl, by rw [addRow_len]; exact hl, hf⟩
  · rintro ρ ⟨⟩ ⟨acc, y4, y5, y6, y7, rfl, hl, hf⟩
    rw [List.length_map, List.drop_length] at hf
    have hf : acc = beh M (bIn bs) cs := hf
    subst hf
    exact s_retO rfl rfl
end
end Mi.CN
/-! lots, noughts, ones_at, ones_in_all. -/
namespace Mi.CN
open PySem L2 TI
local macro_rules | `(tactic| walk_at "op") => `(tactic| with_reducible first
  | exact o_add | exact o_addI | exact o_sub | exact o_lt | exact o_le | exact o_gt | exact o_ge | exact o_eqI | exact o_neI | exact o_eqS | exact o_neS | exact o_neg | exact o_inv | exact o_and | exact o_or | exact o_xor
  | exact o_int | exact o_intB | exact o_abs | exact o_tupL | exact o_tupT | exact o_lenL | exact o_lenT | exact o_isN | exact o_isNotN)
local macro_rules | `(tactic| walk_at "ix") => `(tactic| ((with_reducible apply o_ixA); (first | apply o_ixL | apply o_ixT | apply o_dixS); focus rfl))
local macro_rules | `(tactic| walk_at "op2") => `(tactic| first
  | ((with_reducible apply o_inA); focus rfl)
  | ((with_reducible apply o_notInA); focus rfl)
  | (with_reducible (first | refine o_addL ?_ | refine o_addT ?_); simp only [List.length_cons, List.length_nil]; decide)
  | ((with_reducible apply o_modA); focus (exact mod_ok (by decide)))
  | ((with_reducible apply o_fdivA); focus (exact o_fdiv (by decide) (by decide))))
local macro_rules | `(tactic| walk_at "call") => `(tactic| fail)
local macro_rules | `(tactic| walk_at "s") => `(tactic| first
  | ((with_reducible apply s_set_env); focus (dsimp only [List.set] <;> rfl))
  | ((with_reducible apply f_callPK); (focus rfl); (focus rfl))
  | with_reducible first
    | refine s_seq ?_ | refine d_f (f_bin ?_) | refine d_f (f_c ?_) | refine s_set ?_ | refine v_rv ?_ | refine s_if ?_ | refine b_test ?_ | refine f_bin ?_ | refine f_c ?_ | refine s_ret ?_ | refine s_skip ?_
    | refine r_cons ?_ | refine r_nil ?_ | refine a_consT ?_ | refine a_nil ?_ | refine k_cons ?_ | refine k_nil ?_ | refine a_consF ?_
    | refine f_call ?_ | refine f_callP ?_ | refine f_keep ?_ | refine f_tup ?_ | refine f_if ?_ | refine f_andV ?_ | refine f_orV ?_ | refine f_notV ?_ | refine f_isi ?_ | refine f_sl ?_ | refine f_un ?_ | refine f_chain ?_
    | refine b_and ?_ | refine b_or ?_ | refine b_not ?_ | refine b_yes ?_
    | refine s_asg ?_ | refine s_app ?_ | refine s_par ?_ | refine s_pars ?_ | refine s_drop ?_ | refine s_retN ?_ | refine s_break ?_ | refine s_cont ?_ | refine s_end ?_ | refine s_setP ?_ | refine s_dropP ?_ | refine s_appP ?_ | refine p_at ?_ | refine p_end ?_ | refine s_par3 ?_ | refine ex_three ?_ | refine i_zip ?_ | refine zz_L ?_ | refine zz_T ?_ | refine l_revL ?_ | refine ex_lst ?_
    | refine l_lst ?_ | refine l_dict ?_ | refine l_listL ?_ | refine o_no ?_ | refine o_part ?_ | refine i_enum ?_ | refine i_range1 ?_ | refine v_new ?_ | refine vs_nil ?_ | refine vs_cons ?_
  | ((with_reducible apply d_v); focus rfl)
  | ((with_reducible apply f_v); focus rfl)
  | ((with_reducible apply s_aug); focus rfl)
  | ((with_reducible apply f_callT); focus rfl)
  | ((with_reducible apply w_b); (focus rfl))
  | ((with_reducible apply i_itemsB); (focus rfl); (focus rfl))
  | with_reducible first | refine d_f ?_ | refine w_f ?_ | refine i_items ?_
  | ((with_reducible refine if_yes ?_ ?_); focus rfl)
  | ((with_reducible refine if_no ?_ ?_); focus rfl)
  | ((with_reducible apply op_ok); focus (first | walk_at "op" | walk_at "ix" | walk_at "op2"))
  | ((with_reducible refine len_ok ?_ ?_); focus (simp only [List.length_cons, List.length_nil]; decide))
  | ((with_reducible refine pk_ok ?_ ?_); focus rfl)
  | ((with_reducible refine lt_ok ?_ ?_); focus (simp only [List.length_append, List.length_cons, List.length_nil]; decide))
  | ((with_reducible refine dict_ok ?_ ?_); focus (exact ⟨rfl, by decide, by decide⟩))
  | ((with_reducible refine par_ok ?_ ?_); focus (refine ⟨?_, rfl⟩; simp only [List.length_cons, List.length_nil]; decide))
  | walk_at "call"
  | with_reducible first | refine ex_bool ?_ | refine ex_int ?_ | refine ex_itL ?_ | refine ex_itT ?_ | refine ex_rng ?_ | refine ex_two ?_ | refine ex_lstL ?_ | refine ex_lstT ?_
  | ((with_reducible apply ex_env); focus rfl)
  | ((with_reducible apply ex_own); focus rfl))
theorem mulD_at {xs : List PyData} {i : Int} (h : -(2 ^ 63) ≤ i ∧ i < 2 ^ 63 ∧ xs.length * i.toNat ≤ sizeLine) : mulD (.list xs) (.int i) = some (.list (List.replicate i.toNat xs).flatten) := if_pos h
theorem mulD_rep {xs : List PyData} {k : Nat} (h : xs.length * k ≤ 1000000) (hk : k ≤ 1000000) : mulD (.list xs) (.int (k : Int)) = some (.list (List.replicate k xs).flatten) := by
  rw [mulD_at ⟨by omega, by omega, by rw [Int.toNat_natCast]; exact Nat.le_trans h (by decide)⟩, Int.toNat_natCast]
theorem sum_natsD (cs : List Nat) : sumD [.list (natsD cs)] = some (.int ((cs.sum : Nat) : Int)) := by
  show (intsOf (natsD cs)).map _ = _
  rw [ints_nats]
  show some (PyData.int _) = _
  rw [sumI_nats]
theorem shl_nat {a n : Nat} (ha : a < 2 ^ 100000) (hn : n ≤ 1000) : shlD (.int (a : Int)) (.int (n : Int)) = some (.int ((a * 2 ^ n : Nat) : Int)) := by
  have hb := bits_le (x := (a : Int)) (k := 100000) (by rw [Int.natAbs_natCast]; exact ha)
  have key : ∀ j : Int, 0 ≤ j ∧ (Builtin.Int.intBits (a : Int) : Int) + j ≤ 2 ^ 27 → shlD (.int (a : Int)) (.int j) = some (.int ((a : Int) * 2 ^ j.toNat)) := fun j h => if_pos h
  rw [key n ⟨by omega, by omega⟩, Int.toNat_natCast]
  push_cast
  rfl
theorem addRow_congr {b b' : Nat → Bool} (c : Nat) : ∀ (row : List (Nat × Nat)) (acc : List Nat), (∀ p ∈ row, b p.2 = b' p.2) → addRow b c row acc = addRow b' c row acc
  | [], _, _ => rfl
  | p :: r, acc, h => by
    show addRow b c r (if b p.2 then _ else _) = addRow b' c r (if b' p.2 then _ else _)
    rw [h p (List.mem_cons_self ..), addRow_congr c r _ fun q m => h q (List.mem_cons_of_mem _ m)]
theorem addRows_congr {b b' : Nat → Bool} : ∀ (zs : List (Nat × List (Nat × Nat))) (acc : List Nat), (∀ z ∈ zs, ∀ p ∈ z.2, b p.2 = b' p.2) → addRows b zs acc = addRows b' zs acc
  | [], _, _ => rfl
  | (c, row) :: r, acc, h => by
    show addRows b r (addRow b c row acc) = addRows b' r (addRow b' c row acc)
    rw [addRow_congr c row acc (h (c, row) (List.mem_cons_self ..)), addRows_congr r _ fun z m => h z (List.mem_cons_of_mem _ m)]
theorem bIn0 : bIn [0] = fun q => q == 0 := by
  funext q
  show [0].contains q = (q == 0)
  rw [List.contains_cons]
  exact Bool.or_false _
theorem bIn1 : bIn [1] = fun q => q == 1 := by
  funext q
  show [1].contains q = (q == 1)
  rw [List.contains_cons]
  exact Bool.or_false _
section
variable {many : Nat} {M : Mch}
theorem beh_all (ok : OkM many M) (cs : List Nat) : beh M (bIn [0, 1]) cs = beh M allB cs := by
  unfold beh
  refine addRows_congr _ _ fun z m p mp => ?_
  have hb := (ok.row z.2 (List.of_mem_zip (show (z.1, z.2) ∈ cs.zip M from m)).2).bit p mp
  show [0, 1].contains p.2 = true
  have : p.2 = 0 ∨ p.2 = 1 := by omega
  rcases this with h | h <;> rw [h] <;> rfl
theorem first (h : 0 < M.length) (hM : M.length ≤ 1000) : f__first_counts [rowsD M] = some (.list (natsD (firstC M.length))) := by
  refine fun_ok ?_
  refine s_env (ρ' := [some (.bor (rowsD M))]) rfl ?_
  unfold m__first_counts
  have el : lenD [rowsD M] = some (.int ((M.length : Nat) : Int)) := by
    show some (PyData.int (((M.map rowD).length : Nat) : Int)) = _
    rw [List.length_map]
  have e1 : subD (.int ((M.length : Nat) : Int)) (.int 1) = some (.int ((M.length - 1 : Nat) : Int)) := by
    show some (PyData.int (((M.length : Nat) : Int) - 1)) = _
    congr 2
    omega
  have e2 : mulD (.list [.int 0]) (.int ((M.length - 1 : Nat) : Int)) = some (.list (natsD (List.replicate (M.length - 1) 0))) := by
    rw [mulD_rep (by simp only [List.length_cons, List.length_nil]; omega) (by omega), rep_flat]
    exact congrArg (fun z => some (PyData.list z)) (nats_rep (M.length - 1) 0)
  have e3 : addD (.list [.int 1]) (.list (natsD (List.replicate (M.length - 1) 0))) = some (.list (natsD (firstC M.length))) := by
    rw [o_ll (by rw [nats_len, List.length_replicate]; simp only [List.length_cons, List.length_nil]; omega)]
    rfl
  repeat (first | with_reducible (first | refine op_ok el ?_ | refine op_ok e1 ?_ | refine op_ok e2 ?_ | refine op_ok e3 ?_) | walk_at "s")
  rfl
theorem behL (ok : OkM many M) (hM : M.length ≤ 1000) {cs bs : List Nat} (h : cs.length = M.length) : f__counts_behind [rowsD M, .list (natsD cs), .tuple (natsD bs)] = some (.list (natsD (beh M (bIn bs) cs))) := behind ok hM h false
theorem behT (ok : OkM many M) (hM : M.length ≤ 1000) {cs bs : List Nat} (h : cs.length = M.length) : f__counts_behind [rowsD M, .tuple (natsD cs), .tuple (natsD bs)] = some (.list (natsD (beh M (bIn bs) cs))) := behind ok hM h true
abbrev mcD (many : Nat) (M : Mch) : PyData := .tuple [.int many, rowsD M]
theorem beh01 (ok : OkM many M) (hM : M.length ≤ 1000) (j : Nat) : f__counts_behind [rowsD M, .list (natsD (lotsC M j)), .tuple [.int 0, .int 1]] = some (.list (natsD (lotsC M (j + 1)))) := by
  have e := behL ok hM (bs := [0, 1]) (lots_len ok.pos j)
  rw [beh_all ok] at e
  exact e
theorem lots (ok : OkM many M) (hM : M.length ≤ 1000) {k : Nat} (hk : k ≤ 1000) : f_lots [mcD many M, .int (k : Int)] = some (.tuple (natsD (lotsC M k))) := by
  refine fun_ok ?_
  refine s_env (ρ' := [some (.bor (mcD many M)), some (.bor (.int (k : Int))), none, none, none]) rfl ?_
  unfold m_lots
  have e1 := first ok.pos hM
  repeat (first | with_reducible (first | refine op_ok e1 ?_) | walk_at "s")
  refine s_for (fun j ρ _ => ∃ x, ρ = [some (.bor (mcD many M)), some (.bor (.int (k : Int))), x, some (.fro (rowsD M)), some (.fro (.list (natsD (lotsC M j))))]) ?_
  repeat (first | walk_at "s")
  refine ⟨by omega, ⟨_, rfl⟩, ?_, ?_⟩
  · rintro j d ρ ⟨⟩ hj ⟨x, rfl⟩
    have e2 := beh01 ok hM j
    refine ex_env rfl ?_
    repeat (first | with_reducible (first | refine op_ok e2 ?_) | walk_at "s")
    exact ⟨_, rfl⟩
  · rintro ρ ⟨⟩ ⟨x, rfl⟩
    rw [nats_len, List.length_range, Int.toNat_natCast]
    repeat (first | walk_at "s")
    rfl
theorem noughts (ok : OkM many M) (hM : M.length ≤ 1000) {k : Nat} (hk : k ≤ 1000) : f_noughts [mcD many M, .int (k : Int)] = some (.int (((goC M (fun q => q == 0) k).sum : Nat) : Int)) := by
  refine fun_ok ?_
  refine s_env (ρ' := [some (.bor (mcD many M)), some (.bor (.int (k : Int))), none, none, none]) rfl ?_
  unfold m_noughts
  have e1 := first ok.pos hM
  repeat (first | with_reducible (first | refine op_ok e1 ?_) | walk_at "s")
  refine s_for (fun j ρ _ => ∃ x, ρ = [some (.bor (mcD many M)), some (.bor (.int (k : Int))), x, some (.fro (rowsD M)), some (.fro (.list (natsD (goC M (fun q => q == 0) j))))]) ?_
  repeat (first | walk_at "s")
  refine ⟨by omega, ⟨_, rfl⟩, ?_, ?_⟩
  · rintro j d ρ ⟨⟩ hj ⟨x, rfl⟩
    have e2 : f__counts_behind [rowsD M, .list (natsD (goC M (fun q => q == 0) j)), .tuple [.int 0]] = some (.list (natsD (beh M (bIn [0]) (goC M (fun q => q == 0) j)))) := behL ok hM (bs := [0]) (goC_len ok.pos (fun q => q == 0) j)
    rw [bIn0] at e2
    refine ex_env rfl ?_
    repeat (first | with_reducible (first | refine op_ok e2 ?_) | walk_at "s")
    exact ⟨_, rfl⟩
  · rintro ρ ⟨⟩ ⟨x, rfl⟩
    rw [nats_len, List.length_range, Int.toNat_natCast]
    repeat (first | with_reducible (first | refine op_ok (sum_natsD _) ?_) | walk_at "s")
    rfl
theorem ones_at (ok : OkM many M) (hM : M.length ≤ 1000) {k : Nat} (hk : k ≤ 1000) : f_ones_at [mcD many M, .int (k : Int)] = some (.int (((beh M (fun q => q == 1) (lotsC M k)).sum : Nat) : Int)) := by
  refine fun_ok ?_
  refine s_env (ρ' := [some (.bor (mcD many M)), some (.bor (.int (k : Int))), none, none]) rfl ?_
  unfold m_ones_at
  have e1 := lots ok hM hk
  have e2 : f__counts_behind [rowsD M, .tuple (natsD (lotsC M k)), .tuple [.int 1]] = some (.list (natsD (beh M (bIn [1]) (lotsC M k)))) := behT ok hM (bs := [1]) (lots_len ok.pos k)
  rw [bIn1] at e2
  repeat (first | with_reducible (first | refine op_ok e1 ?_ | refine op_ok e2 ?_ | refine op_ok (sum_natsD _) ?_) | walk_at "s")
  rfl
theorem pop_le (x : Nat) : ∀ w : Nat, pop x w ≤ w
  | 0 => Nat.le_refl 0
  | w + 1 => by
    have := pop_le x w
    have hb := bitN_lt x w
    unfold pop at this ⊢
    rw [List.range_succ, List.map_append, List.sum_append]
    show _ + ([w].map (bitN x)).sum ≤ _
    rw [List.map_cons, List.map_nil, List.sum_cons, List.sum_nil]
    omega
theorem sum_le {α : Type} {f : α → Nat} {c : Nat} : ∀ {xs : List α}, (∀ x ∈ xs, f x ≤ c) → (xs.map f).sum ≤ xs.length * c
  | [], _ => Nat.zero_le _
  | x :: r, h => by
    have := sum_le (f := f) (xs := r) fun y m => h y (List.mem_cons_of_mem _ m)
    have hx := h x (List.mem_cons_self ..)
    rw [List.map_cons, List.sum_cons, List.length_cons, Nat.add_mul, Nat.one_mul]
    omega
theorem onesC_le (ok : OkM many M) (k : Nat) : onesC M many k ≤ 2 ^ (many * k) * k := by
  rw [ones_sum ok k, ← stgs_len many k]
  exact sum_le fun s m => pop_le _ _
theorem onesC_lt (ok : OkM many M) {k : Nat} (hk : k ≤ 1000) (hm : many ≤ 10) : onesC M many k < 2 ^ 100000 := by
  have h1 := onesC_le ok k
  have h2 : k < 2 ^ 10 := by omega
  have h3 : 2 ^ (many * k) * k < 2 ^ (many * k) * 2 ^ 10 := Nat.mul_lt_mul_of_pos_left h2 (Nat.pow_pos (by decide))
  have h4 : many * k ≤ 10 * 1000 := Nat.mul_le_mul hm hk
  rw [← Nat.pow_add] at h3
  exact Nat.lt_of_lt_of_le (Nat.lt_of_le_of_lt h1 h3) (Nat.pow_le_pow_right (by decide) (by omega))
theorem ones_in_all (ok : OkM many M) (hM : M.length ≤ 1000) (hm : many ≤ 10) {k : Nat} (hk : k ≤ 1000) : f_ones_in_all [mcD many M, .int (k : Int)] = some (.int ((onesC M many k : Nat) : Int)) := by
  refine fun_ok ?_
  refine s_env (ρ' := [some (.bor (mcD many M)), some (.bor (.int (k : Int))), none, none, none, none, none]) rfl ?_
  unfold m_ones_in_all
  have e1 := first ok.pos hM
  repeat (first | with_reducible (first | refine op_ok e1 ?_) | walk_at "s")
  refine s_for (fun j ρ _ => j ≤ k → ∃ x, ρ = [some (.bor (mcD many M)), some (.bor (.int (k : Int))), some (.fro (.int (many : Int))), some (.fro (rowsD M)), some (.fro (.list (natsD (lotsC M j)))), some (.fro (.int ((onesC M many j : Nat) : Int))), x]) ?_
  repeat (first | walk_at "s")
  have hln : (natsD (List.range (k : Int).toNat)).length = k := by rw [nats_len, List.length_range, Int.toNat_natCast]
  refine ⟨by omega, fun _ => ⟨_, rfl⟩, ?_, ?_⟩
  · rintro j d ρ ⟨⟩ hj hP
    have hjk := lt_at hj
    rw [hln] at hjk
    obtain ⟨x, rfl⟩ := hP (by omega)
    have e2 := beh01 ok hM j
    have e3 : f__counts_behind [rowsD M, .list (natsD (lotsC M j)), .tuple [.int 1]] = some (.list (natsD (beh M (bIn [1]) (lotsC M j)))) := behL ok hM (bs := [1]) (lots_len ok.pos j)
    rw [bIn1] at e3
    have e4 := shl_nat (a := onesC M many j) (n := many) (onesC_lt ok (by omega) hm) (by omega)
    refine ex_env rfl ?_
    repeat (first | with_reducible (first | refine op_ok e2 ?_ | refine op_ok e3 ?_ | refine op_ok e4 ?_ | refine op_ok (sum_natsD _) ?_ | refine op_ok (addN _ _) ?_) | walk_at "s")
    exact fun _ => ⟨_, rfl⟩
  · rintro ρ ⟨⟩ hP
    rw [hln] at hP
    obtain ⟨x, rfl⟩ := hP (Nat.le_refl k)
    repeat (first | walk_at "s")
    rfl
end
end Mi.CN
/-! More of the counts: bounds, strings put together, machines that begin elsewhere. -/
namespace Mi.CN
open PySem L2 TI
section
variable {many : Nat} {M : Mch}
theorem nought_le (ok : OkM many M) (k : Nat) : (goC M (fun q => q == 0) k).sum ≤ 2 ^ (many * k) := by
  rw [← dot_one (goC M (fun q => q == 0) k) 0, nought_sum ok, ← stgs_len many k]
  refine Nat.le_trans (sum_le (c := 1) fun s m => ?_) (by rw [Nat.mul_one]; exact Nat.le_refl _)
  split <;> omega
theorem onesAt_le (ok : OkM many M) (k : Nat) : (beh M (fun q => q == 1) (lotsC M k)).sum ≤ 2 ^ (many * (k + 1)) := by
  rw [onesAt_sum ok k, ← stgs_len many (k + 1)]
  refine Nat.le_trans (sum_le (c := 1) fun s m => ?_) (by rw [Nat.mul_one]; exact Nat.le_refl _)
  obtain ⟨h1, h2⟩ := stgs_ok many (k + 1) s m
  have lt := outW_lt ok s 0 0 ok.pos h1
  rw [Nat.zero_add, h2] at lt
  unfold lastB
  rw [h2]
  have : outW M 0 s 0 / 2 ^ (k + 1 - 1) < 2 := Nat.div_lt_of_lt_mul (by rw [← Nat.pow_succ]; exact Nat.lt_of_lt_of_le (Nat.lt_of_lt_of_le (by omega) lt) (by exact Nat.le_refl _))
  omega
def ind (g : Nat) : Nat → Nat := fun q => if q = g then 1 else 0
theorem dot_ext {f f' : Nat → Nat} : ∀ (cs : List Nat) (i : Nat), (∀ j, j < cs.length → f (i + j) = f' (i + j)) → dot f cs i = dot f' cs i
  | [], _, _ => rfl
  | c :: r, i, h => by
    show c * f i + dot f r (i + 1) = c * f' i + dot f' r (i + 1)
    have h0 := h 0 (by rw [List.length_cons]; omega)
    rw [Nat.add_zero] at h0
    have e := dot_ext (f := f) (f' := f') r (i + 1) fun j hj => by
      have := h (j + 1) (by rw [List.length_cons]; omega)
      rwa [show i + (j + 1) = i + 1 + j by omega] at this
    rw [h0, e]
theorem get_dot (g : Nat) : ∀ (cs : List Nat) (i : Nat), cs.getD g 0 = dot (ind (i + g)) cs i
  | [], _ => by rw [List.getD_eq_getElem?_getD]; rfl
  | c :: r, i => by
    show _ = c * ind (i + g) i + dot (ind (i + g)) r (i + 1)
    cases g with
    | zero =>
      have z : dot (ind (i + 0)) r (i + 1) = 0 := (dot_ext (f' := fun _ => 0) r (i + 1) fun j _ => if_neg (by omega)).trans (dot_zero r (i + 1))
      rw [z, show ind (i + 0) i = 1 from if_pos rfl, Nat.mul_one]
      rfl
    | succ g =>
      rw [show ind (i + (g + 1)) i = 0 from if_neg (by omega), Nat.mul_zero, Nat.zero_add, show i + (g + 1) = i + 1 + g by omega, ← get_dot g r (i + 1)]
      rfl
/-! ### the machine that begins in another state -/
end
end Mi.CN
/-! Counts of machines that write alike. -/
namespace Mi.CM
open PySem L2 CN
section
variable {many : Nat} {M N : Mch}
theorem same_no (okN : OkM many N) (ok : OkM many M) (h : LM.beh many N M 0 0) (k : Nat) : (goC N (fun q => q == 0) k).sum = (goC M (fun q => q == 0) k).sum := by
  rw [← dot_one _ 0, ← dot_one _ 0, nought_sum okN, nought_sum ok]
  refine sum_congr fun s m => ?_
  rw [LM.beh_out h (stgs_ok many k s m).1]
theorem same_at (okN : OkM many N) (ok : OkM many M) (h : LM.beh many N M 0 0) (k : Nat) : (CN.beh N (fun q => q == 1) (lotsC N k)).sum = (CN.beh M (fun q => q == 1) (lotsC M k)).sum := by
  rw [onesAt_sum okN, onesAt_sum ok]
  refine sum_congr fun s m => ?_
  unfold lastB
  rw [LM.beh_out h (stgs_ok many (k + 1) s m).1]
theorem same_all (okN : OkM many N) (ok : OkM many M) (h : LM.beh many N M 0 0) (k : Nat) : onesC N many k = onesC M many k := by
  rw [ones_sum okN, ones_sum ok]
  refine sum_congr fun s m => ?_
  rw [LM.beh_out h (stgs_ok many k s m).1]
theorem lots_through (okN : OkM many N) (ok : OkM many M) (hm : Nat → Nat) (k : Nat) (h : ∀ s, OkS many s → hm (runS N 0 s) = runS M 0 s) (f : Nat → Nat) : dot (fun g => f (hm g)) (lotsC N k) 0 = dot f (lotsC M k) 0 := by
  rw [lots_sum okN, lots_sum ok]
  refine sum_congr fun s m => ?_
  rw [h s (stgs_ok many k s m).1]
theorem lots_moved (okN : OkM many N) (ok : OkM many M) (mv : Nat → Nat) (k g : Nat) (h : ∀ s, OkS many s → (runS N 0 s = mv g ↔ runS M 0 s = g)) : (lotsC N k).getD (mv g) 0 = (lotsC M k).getD g 0 := by
  rw [get_dot _ _ 0, get_dot _ _ 0, lots_sum okN, lots_sum ok]
  refine sum_congr fun s m => ?_
  have e := h s (stgs_ok many k s m).1
  unfold ind
  rw [Nat.zero_add, Nat.zero_add]
  by_cases q : runS M 0 s = g
  · rw [if_pos q, if_pos (e.mpr q)]
  · rw [if_neg q, if_neg (fun z => q (e.mp z))]
theorem goC_le (ok : OkM many M) {k c : Nat} (h : c ∈ goC M (fun q => q == 0) k) : c ≤ 2 ^ (many * k) := Nat.le_trans (le_sum _ c h) (nought_le ok k)
theorem lots_le (ok : OkM many M) {k c : Nat} (h : c ∈ lotsC M k) : c ≤ 2 ^ (many * k) := by
  have := le_sum _ c h
  rw [lots_total ok] at this
  exact this
theorem bits_sum : ∀ row : List (Nat × Nat), (∀ p ∈ row, p.2 < 2) → (row.map fun p => p.2).sum = rowS (fun _ => 1) (fun q => q == 1) row
  | [], _ => rfl
  | p :: r, h => by
    have ih := bits_sum r fun q m => h q (List.mem_cons_of_mem _ m)
    have hp := h p List.mem_cons_self
    unfold rowS at ih ⊢
    rw [List.map_cons, List.sum_cons, List.map_cons, List.sum_cons, ih]
    congr 1
    match p.2, hp with
    | 0, _ => rfl
    | 1, _ => rfl
theorem at_sum (ok : OkM many M) (k : Nat) : (CN.beh M (fun q => q == 1) (lotsC M k)).sum = zdot (fun _ => 1) (fun q => q == 1) (lotsC M k) M := by
  rw [← dot_one _ 0, dot_beh ok _ _ (lots_len ok.pos k)]
  exact (zdot_dot _ _ M (lotsC M k) M 0 rfl (lots_len ok.pos k)).symm
theorem zdot_drop (f : Nat → Nat) (b : Nat → Bool) : ∀ (cs : List Nat) (rs : Mch) (j : Nat) (c : Nat) (r : List (Nat × Nat)), (cs.zip rs)[j]? = some (c, r) → zdot f b (cs.drop j) (rs.drop j) = c * rowS f b r + zdot f b (cs.drop (j + 1)) (rs.drop (j + 1))
  | [], _, _, _, _, h => by simp at h
  | _ :: _, [], _, _, _, h => by simp at h
  | c0 :: cs, r0 :: rs, 0, c, r, h => by
    rw [List.zip_cons_cons, List.getElem?_cons_zero] at h
    cases h
    rfl
  | c0 :: cs, r0 :: rs, j + 1, c, r, h => by
    rw [List.zip_cons_cons, List.getElem?_cons_succ] at h
    rw [List.drop_succ_cons, List.drop_succ_cons, List.drop_succ_cons, List.drop_succ_cons]
    exact zdot_drop f b cs rs j c r h
end
end Mi.CM
/-! k10: the law's own counts. -/
namespace Mi.K10
open PySem L2 TI CN
open TA (TrOk)
local macro_rules | `(tactic| walk_at "op") => `(tactic| with_reducible first
  | exact o_add | exact o_addI | exact o_sub | exact o_lt | exact o_le | exact o_gt | exact o_ge | exact o_eqI | exact o_neI | exact o_eqS | exact o_neS | exact o_neg | exact o_inv | exact o_and | exact o_or | exact o_xor
  | exact o_int | exact o_intB | exact o_abs | exact o_tupL | exact o_tupT | exact o_lenL | exact o_lenT | exact o_isN | exact o_isNotN)
local macro_rules | `(tactic| walk_at "ix") => `(tactic| ((with_reducible apply o_ixA); (first | apply o_ixL | apply o_ixT | apply o_dixS); focus rfl))
local macro_rules | `(tactic| walk_at "op2") => `(tactic| first
  | ((with_reducible apply o_inA); focus rfl)
  | ((with_reducible apply o_notInA); focus rfl)
  | (with_reducible (first | refine o_addL ?_ | refine o_addT ?_); simp only [List.length_cons, List.length_nil]; decide)
  | ((with_reducible apply o_modA); focus (exact mod_ok (by decide)))
  | ((with_reducible apply o_fdivA); focus (exact o_fdiv (by decide) (by decide))))
local macro_rules | `(tactic| walk_at "call") => `(tactic| fail)
local macro_rules | `(tactic| walk_at "s") => `(tactic| first
  | ((with_reducible apply s_set_env); focus (dsimp only [List.set] <;> rfl))
  | ((with_reducible apply f_callPK); (focus rfl); (focus rfl))
  | with_reducible first
    | refine s_seq ?_ | refine d_f (f_bin ?_) | refine d_f (f_c ?_) | refine s_set ?_ | refine v_rv ?_ | refine s_if ?_ | refine b_test ?_ | refine f_bin ?_ | refine f_c ?_ | refine s_ret ?_ | refine s_skip ?_
    | refine r_cons ?_ | refine r_nil ?_ | refine a_consT ?_ | refine a_nil ?_ | refine k_cons ?_ | refine k_nil ?_ | refine a_consF ?_
    | refine f_call ?_ | refine f_callP ?_ | refine f_keep ?_ | refine f_tup ?_ | refine f_if ?_ | refine f_andV ?_ | refine f_orV ?_ | refine f_notV ?_ | refine f_isi ?_ | refine f_sl ?_ | refine f_un ?_ | refine f_chain ?_
    | refine b_and ?_ | refine b_or ?_ | refine b_not ?_ | refine b_yes ?_
    | refine s_asg ?_ | refine s_app ?_ | refine s_par ?_ | refine s_pars ?_ | refine s_drop ?_ | refine s_retN ?_ | refine s_break ?_ | refine s_cont ?_ | refine s_end ?_ | refine s_setP ?_ | refine s_dropP ?_ | refine s_appP ?_ | refine p_at ?_ | refine p_end ?_ | refine s_par3 ?_ | refine ex_three ?_ | refine i_zip ?_ | refine zz_L ?_ | refine zz_T ?_ | refine l_revL ?_ | refine ex_lst ?_
    | refine l_lst ?_ | refine l_dict ?_ | refine l_listL ?_ | refine o_no ?_ | refine o_part ?_ | refine i_enum ?_ | refine i_range1 ?_ | refine v_new ?_ | refine vs_nil ?_ | refine vs_cons ?_
  | ((with_reducible apply d_v); focus rfl)
  | ((with_reducible apply f_v); focus rfl)
  | ((with_reducible apply s_aug); focus rfl)
  | ((with_reducible apply f_callT); focus rfl)
  | ((with_reducible apply w_b); (focus rfl))
  | ((with_reducible apply i_itemsB); (focus rfl); (focus rfl))
  | with_reducible first | refine d_f ?_ | refine w_f ?_ | refine i_items ?_
  | ((with_reducible refine if_yes ?_ ?_); focus rfl)
  | ((with_reducible refine if_no ?_ ?_); focus rfl)
  | ((with_reducible apply op_ok); focus (first | walk_at "op" | walk_at "ix" | walk_at "op2"))
  | ((with_reducible refine len_ok ?_ ?_); focus (simp only [List.length_cons, List.length_nil]; decide))
  | ((with_reducible refine pk_ok ?_ ?_); focus rfl)
  | ((with_reducible refine lt_ok ?_ ?_); focus (simp only [List.length_append, List.length_cons, List.length_nil]; decide))
  | ((with_reducible refine dict_ok ?_ ?_); focus (exact ⟨rfl, by decide, by decide⟩))
  | ((with_reducible refine par_ok ?_ ?_); focus (refine ⟨?_, rfl⟩; simp only [List.length_cons, List.length_nil]; decide))
  | walk_at "call"
  | with_reducible first | refine ex_bool ?_ | refine ex_int ?_ | refine ex_itL ?_ | refine ex_itT ?_ | refine ex_rng ?_ | refine ex_two ?_ | refine ex_lstL ?_ | refine ex_lstT ?_
  | ((with_reducible apply ex_env); focus rfl)
  | ((with_reducible apply ex_own); focus rfl))
local macro_rules | `(tactic| walk_at "call") => `(tactic| with_reducible first | refine i_zip2 ?_ | refine l_repL ?_ | refine zz2_L ?_ | refine zz2_T ?_ | refine zz2_X ?_)
theorem edMono {T : Type} {f : ME T} {ρ : Env} {t : T} {Q Q' : PyData → T → Prop} (h : Ed f ρ t Q) (m : ∀ d t', Q d t' → Q' d t') : Ed f ρ t Q' := by
  obtain ⟨r, t', d, e, ed, q⟩ := h
  exact ⟨r, t', d, e, ed, m _ _ q⟩
abbrev eC (many : Nat) (M : Mch) (k : Nat) (cs : List Nat) (x3 x4 x5 x6 x7 x8 : Option Val) : Env := [some (.bor (mcD many M)), some (.bor (.int (k : Int))), some (.fro (.list (natsD cs))), x3, x4, x5, x6, x7, x8]
def mInner (fv : ME Unit) : MS Unit := (mFor (mItems (mV 6)) (gT (gs1 (gN 7) (gs1 (gN 8) gs0)) 2) (mPutAt 4 (mV 7) (mBin addD (mBin ixD (mV 4) (mV 7)) fv)))
def mTable (fv : ME Unit) : MS Unit := (mSeq (mSet 4 (mNew (mRepL (mKeep (mLst (mCons (mC (.int 0)) mNil))) (mCall lenD (mCons (mV 2) mNil)))))
  (mSeq (mFor (mZip2 (mV 2) (mBin ixD (mV 0) (mC (.int 1)))) (gT (gs1 (gN 5) (gs1 (gN 6) gs0)) 2) (mInner fv))
  (mFz 4 (mSet 2 (mRv (mV 4))))))
/-- the expression tells what is to be added -/
def Tells (many : Nat) (M : Mch) (k : Nat) (cs : List Nat) (b : Nat → Bool) (fv : ME Unit) : Prop := ∀ (c : Nat) (p : Nat × Nat) (x3 x4 x6 x7 : Option Val), c ∈ cs → p.2 < 2 → Ed fv (eC many M k cs x3 x4 (some (.fro (.int (c : Int)))) x6 x7 (some (.fro (.int (p.2 : Int))))) () (fun x _ => x = .int ((if b p.2 then c else 0 : Nat) : Int))
section
variable {many : Nat} {M : Mch} {k : Nat} {cs : List Nat} {b : Nat → Bool} {fv : ME Unit} {N B C : Env → Unit → Prop} {R : PyData → Unit → Prop}
theorem set_if (acc : List Nat) (g c : Nat) (q : Bool) (hg : g < acc.length) : acc.set g (acc.getD g 0 + (if q then c else 0)) = if q then acc.set g (acc.getD g 0 + c) else acc := by
  cases q with
  | true => rfl
  | false =>
    show acc.set g (acc.getD g 0 + 0) = acc
    have e : acc.getD g 0 = acc[g] := by rw [List.getD_eq_getElem?_getD, List.getElem?_eq_getElem hg]; rfl
    rw [Nat.add_zero, e]
    exact List.set_getElem_self hg
theorem inner {c : Nat} {row : List (Nat × Nat)} {acc : List Nat} {x3 x7 x8 : Option Val} (tl : Tells many M k cs b fv) (hc : c ∈ cs) (hl : acc.length = M.length) (hM : M.length ≤ 1000) (okr : OkRow many M.length row)
    (q : ∀ x7 x8, N (eC many M k cs x3 (some (.own (.list (natsD (addRow b c row acc))))) (some (.fro (.int (c : Int)))) (some (.fro (.tuple (row.map pairD)))) x7 x8) ()) :
    Es (mInner fv) (eC many M k cs x3 (some (.own (.list (natsD acc)))) (some (.fro (.int (c : Int)))) (some (.fro (.tuple (row.map pairD)))) x7 x8) () N R B C := by
  unfold mInner
  refine s_for (fun j ρ _ => ∃ acc' x7 x8, ρ = eC many M k cs x3 (some (.own (.list (natsD acc')))) (some (.fro (.int (c : Int)))) (some (.fro (.tuple (row.map pairD)))) x7 x8 ∧ acc'.length = M.length ∧ addRow b c (row.drop j) acc' = addRow b c row acc) ?_
  repeat (first | walk_at "s")
  refine ⟨⟨acc, _, _, rfl, hl, rfl⟩, ?_, ?_⟩
  · rintro j d ρ ⟨⟩ hj ⟨acc', y7, y8, rfl, hl', hf⟩
    rw [List.getElem?_map] at hj
    obtain ⟨p, hp, rfl⟩ := Option.map_eq_some_iff.mp hj
    have hg := okr.goal p (List.mem_of_getElem? hp)
    have hb := okr.bit p (List.mem_of_getElem? hp)
    have ea : acc'[p.1]? = some (acc'.getD p.1 0) := by rw [List.getD_eq_getElem?_getD, List.getElem?_eq_getElem (by omega)]; rfl
    have e1 := ixL_nats ea
    rw [drop_at hp] at hf
    refine ex_env rfl ?_
    refine s_putAt (f_bin (d_f (f_bin (d_v rfl (d_v rfl (op_ok e1 ?_))))))
    refine edMono (tl c p _ _ _ _ hc hb) fun x t hx => ?_
    subst hx
    refine op_ok (addN _ _) ?_
    repeat (first | walk_at "s")
    refine ⟨(p.1 : Int), natsD acc', p.1, rfl, rfl, ixN_nat (by rw [CN.nats_len]; omega) (by rw [CN.nats_len]; omega), ?_⟩
    rw [nats_set, set_if _ _ _ _ (by omega)]
    refine ⟨_, some (.fro (.int (p.1 : Int))), some (.fro (.int (p.2 : Int))), rfl, ?_, hf⟩
    split
    · rw [List.length_set]; exact hl'
    · exact hl'
  · rintro ρ ⟨⟩ ⟨acc', y7, y8, rfl, hl', hf⟩
    rw [List.length_map, List.drop_length] at hf
    have hf : acc' = addRow b c row acc := hf
    subst hf
    exact q y7 y8
theorem table {x3 x4 x5 x6 x7 x8 : Option Val} (ok : OkM many M) (tl : Tells many M k cs b fv) (hl : cs.length = M.length) (hM : M.length ≤ 1000)
    (q : ∀ x4 x5 x6 x7 x8, N (eC many M k (beh M b cs) x3 x4 x5 x6 x7 x8) ()) :
    Es (mTable fv) (eC many M k cs x3 x4 x5 x6 x7 x8) () N R B C := by
  unfold mTable
  have el : lenD [.list (natsD cs)] = some (.int ((M.length : Nat) : Int)) := by
    show some (PyData.int (((natsD cs).length : Nat) : Int)) = _
    rw [CN.nats_len, hl]
  have er : repLD (.list [.int 0]) (.int ((M.length : Nat) : Int)) = some (.list (natsD (List.replicate M.length 0))) := by
    rw [repLD_ok (by simp only [List.length_cons, List.length_nil]; omega) (by omega), rep_flat]
    exact congrArg (fun z => some (PyData.list z)) (nats_rep M.length 0)
  repeat (first | with_reducible (first | refine op_ok el ?_ | refine op_ok er ?_) | walk_at "s")
  refine s_for (fun j ρ _ => ∃ acc x5 x6 x7 x8, ρ = eC many M k cs x3 (some (.own (.list (natsD acc)))) x5 x6 x7 x8 ∧ acc.length = M.length ∧ addRows b ((cs.zip M).drop j) acc = beh M b cs) ?_
  repeat (first | with_reducible (first | refine op_ok (ix1 _ _ _) ?_) | walk_at "s")
  have hz : zipL (natsD cs) (M.map rowD) = (cs.zip M).map fun z => .tuple [.int (z.1 : Int), rowD z.2] := zipL_nats cs M
  rw [hz]
  refine ⟨⟨_, _, _, _, _, rfl, List.length_replicate .., rfl⟩, ?_, ?_⟩
  · rintro j d ρ ⟨⟩ hj ⟨acc, y5, y6, y7, y8, rfl, hla, hf⟩
    rw [List.getElem?_map] at hj
    obtain ⟨⟨c, row⟩, hzj, rfl⟩ := Option.map_eq_some_iff.mp hj
    rw [drop_at hzj] at hf
    have hm := List.of_mem_zip (List.mem_of_getElem? hzj)
    refine ex_env rfl ?_
    refine s_env (ρ' := eC many M k cs x3 (some (.own (.list (natsD acc)))) (some (.fro (.int (c : Int)))) (some (.fro (.tuple (row.map pairD)))) y7 y8) rfl ?_
    exact inner tl hm.1 hla hM (ok.row row hm.2) fun x7 x8 => ⟨_, _, _, _, _, rfl, by rw [addRow_len]; exact hla, hf⟩
  · rintro ρ ⟨⟩ ⟨acc, y5, y6, y7, y8, rfl, hla, hf⟩
    rw [List.length_map, List.drop_length] at hf
    have hf : acc = beh M b cs := hf
    subst hf
    refine MD.s_fz rfl ?_
    repeat (first | walk_at "s")
    exact q _ _ _ _ _
end
theorem tellsC {many : Nat} {M : Mch} {k : Nat} {cs : List Nat} : Tells many M k cs allB (mV 5) := fun c p x3 x4 x6 x7 _ _ => d_v rfl rfl
theorem tellsN {many : Nat} {M : Mch} {k : Nat} {cs : List Nat} (h : ∀ c ∈ cs, c < 2 ^ 1000) : Tells many M k cs (fun q => q == 0) (mBin mulD (mV 5) (mBin subD (mC (.int 1)) (mV 8))) := fun c p x3 x4 x6 x7 hc hp => by
  have e1 : subD (.int 1) (.int (p.2 : Int)) = some (.int ((1 - p.2 : Nat) : Int)) := subN (a := 1) (by omega)
  have e2 := mulN (h c hc) (b := 1 - p.2) (Nat.lt_of_le_of_lt (Nat.sub_le 1 p.2) (by decide))
  have e3 : c * (1 - p.2) = if (p.2 == 0) = true then c else 0 := by
    match p.2, hp with
    | 0, _ => exact Nat.mul_one c
    | 1, _ => exact Nat.mul_zero c
  rw [e3] at e2
  repeat (first | with_reducible (first | refine op_ok e1 ?_ | refine op_ok e2 ?_) | walk_at "s")
  rfl
section
variable {many : Nat} {M : Mch}
theorem firsts (h : 0 < M.length) (hM : M.length ≤ 1000) : lenD [rowsD M] = some (.int ((M.length : Nat) : Int)) ∧ subD (.int ((M.length : Nat) : Int)) (.int 1) = some (.int ((M.length - 1 : Nat) : Int)) ∧ mulD (.list [.int 0]) (.int ((M.length - 1 : Nat) : Int)) = some (.list (natsD (List.replicate (M.length - 1) 0))) ∧ addD (.list [.int 1]) (.list (natsD (List.replicate (M.length - 1) 0))) = some (.list (natsD (firstC M.length))) := by
  refine ⟨?_, ?_, ?_, ?_⟩
  · show some (PyData.int (((M.map rowD).length : Nat) : Int)) = _
    rw [List.length_map]
  · show some (PyData.int (((M.length : Nat) : Int) - 1)) = _
    congr 2
    omega
  · rw [CN.mulD_rep (by simp only [List.length_cons, List.length_nil]; omega) (by omega), rep_flat]
    exact congrArg (fun z => some (PyData.list z)) (nats_rep (M.length - 1) 0)
  · rw [o_ll (by rw [CN.nats_len, List.length_replicate]; simp only [List.length_cons, List.length_nil]; omega)]
    rfl
theorem counts (ok : OkM many M) (hM : M.length ≤ 1000) {k : Nat} (hk : k ≤ 1000) : f__law_counts [mcD many M, .int (k : Int)] = some (.tuple (natsD (lotsC M k))) := by
  refine fun_ok ?_
  refine s_env (ρ' := [some (.bor (mcD many M)), some (.bor (.int (k : Int))), none, none, none, none, none, none, none]) rfl ?_
  show Es (mSeq _ (mSeq (mFor _ _ (mTable (mV 5))) _)) _ _ _ _ _ _
  obtain ⟨e1, e2, e3, e4⟩ := firsts ok.pos hM
  repeat (first | with_reducible (first | refine op_ok (ix1 _ _ _) ?_ | refine op_ok e1 ?_ | refine op_ok e2 ?_ | refine op_ok e3 ?_ | refine op_ok e4 ?_) | walk_at "s")
  refine s_for (fun j ρ _ => ∃ x3 x4 x5 x6 x7 x8, ρ = eC many M k (lotsC M j) x3 x4 x5 x6 x7 x8) ?_
  repeat (first | walk_at "s")
  refine ⟨by omega, ⟨_, _, _, _, _, _, rfl⟩, ?_, ?_⟩
  · rintro j d ρ ⟨⟩ hj ⟨x3, x4, x5, x6, x7, x8, rfl⟩
    refine ex_env rfl ?_
    exact table ok tellsC (lots_len ok.pos j) hM fun x4 x5 x6 x7 x8 => ⟨_, _, _, _, _, _, rfl⟩
  · rintro ρ ⟨⟩ ⟨x3, x4, x5, x6, x7, x8, rfl⟩
    rw [CN.nats_len, List.length_range, Int.toNat_natCast]
    repeat (first | walk_at "s")
    rfl
theorem none_written (ok : OkM many M) (hM : M.length ≤ 1000) {k : Nat} (hk : k ≤ 1000) (hmk : many * k < 1000) : f__law_written_none [mcD many M, .int (k : Int)] = some (.int (((goC M (fun q => q == 0) k).sum : Nat) : Int)) := by
  refine fun_ok ?_
  refine s_env (ρ' := [some (.bor (mcD many M)), some (.bor (.int (k : Int))), none, none, none, none, none, none, none]) rfl ?_
  show Es (mSeq _ (mSeq (mFor _ _ (mTable (mBin mulD (mV 5) (mBin subD (mC (.int 1)) (mV 8))))) _)) _ _ _ _ _ _
  obtain ⟨e1, e2, e3, e4⟩ := firsts ok.pos hM
  repeat (first | with_reducible (first | refine op_ok (ix1 _ _ _) ?_ | refine op_ok e1 ?_ | refine op_ok e2 ?_ | refine op_ok e3 ?_ | refine op_ok e4 ?_) | walk_at "s")
  refine s_for (fun j ρ _ => ∃ x3 x4 x5 x6 x7 x8, ρ = eC many M k (goC M (fun q => q == 0) j) x3 x4 x5 x6 x7 x8) ?_
  repeat (first | walk_at "s")
  refine ⟨by omega, ⟨_, _, _, _, _, _, rfl⟩, ?_, ?_⟩
  · rintro j d ρ ⟨⟩ hj ⟨x3, x4, x5, x6, x7, x8, rfl⟩
    have hjl := lt_at hj
    rw [CN.nats_len, List.length_range, Int.toNat_natCast] at hjl
    refine ex_env rfl ?_
    refine table ok (tellsN fun c hc => ?_) (goC_len ok.pos _ j) hM fun x4 x5 x6 x7 x8 => ⟨_, _, _, _, _, _, rfl⟩
    refine Nat.lt_of_le_of_lt (CM.goC_le ok hc) (Nat.pow_lt_pow_right (by decide) (Nat.lt_of_le_of_lt (Nat.mul_le_mul_left many (Nat.le_of_lt hjl)) hmk))
  · rintro ρ ⟨⟩ ⟨x3, x4, x5, x6, x7, x8, rfl⟩
    rw [CN.nats_len, List.length_range, Int.toNat_natCast]
    repeat (first | with_reducible (first | refine op_ok (sum_natsD _) ?_) | walk_at "s")
    rfl
theorem ones (ok : OkM many M) (hM : M.length ≤ 1000) (hm : many ≤ 3) {k : Nat} (hk : k ≤ 1000) (hmk : many * k < 1000) : f__law_ones [mcD many M, .int (k : Int)] = some (.int (((beh M (fun q => q == 1) (lotsC M k)).sum : Nat) : Int)) := by
  refine fun_ok ?_
  refine s_env (ρ' := [some (.bor (mcD many M)), some (.bor (.int (k : Int))), none, none, none, none, none]) rfl ?_
  unfold m__law_ones
  have e1 := counts ok hM hk
  have hz : zipL (natsD (lotsC M k)) (M.map rowD) = ((lotsC M k).zip M).map fun z => .tuple [.int (z.1 : Int), rowD z.2] := zipL_nats _ M
  rw [CM.at_sum ok]
  repeat (first | with_reducible (first | refine op_ok e1 ?_ | refine op_ok (ix1 _ _ _) ?_) | walk_at "s")
  refine s_for (fun j ρ _ => ∃ (F : Nat) (x3 x4 x5 x6 : Option Val), ρ = [some (.bor (mcD many M)), some (.bor (.int (k : Int))), some (.fro (.int (F : Int))), x3, x4, x5, x6] ∧ F + zdot (fun _ => 1) (fun q => q == 1) ((lotsC M k).drop j) (M.drop j) = zdot (fun _ => 1) (fun q => q == 1) (lotsC M k) M) ?_
  repeat (first | with_reducible (first | refine op_ok e1 ?_ | refine op_ok (ix1 _ _ _) ?_) | walk_at "s")
  rw [hz]
  refine ⟨⟨0, _, _, _, _, rfl, Nat.zero_add _⟩, ?_, ?_⟩
  · rintro j d ρ ⟨⟩ hj ⟨F, x3, x4, x5, x6, rfl, hf⟩
    rw [List.getElem?_map] at hj
    obtain ⟨⟨c, row⟩, hzj, rfl⟩ := Option.map_eq_some_iff.mp hj
    have hme := List.of_mem_zip (List.mem_of_getElem? hzj)
    have okr := ok.row row hme.2
    have hc : c < 2 ^ 1000 := Nat.lt_of_le_of_lt (CM.lots_le ok hme.1) (Nat.pow_lt_pow_right (by decide) hmk)
    rw [CM.zdot_drop _ _ _ _ _ _ _ hzj] at hf
    have hrl : row.length ≤ 8 := by
      rw [okr.len]
      exact Nat.pow_le_pow_right (n := 2) (by decide) hm
    have hb : rowS (fun _ => 1) (fun q => q == 1) row < 2 ^ 1000 := by
      have : rowS (fun _ => 1) (fun q => q == 1) row ≤ row.length * 1 := CN.sum_le fun p _ => by
        show (if _ then 1 else 0) ≤ 1
        split <;> omega
      exact Nat.lt_of_le_of_lt (Nat.le_trans this (by rw [Nat.mul_one]; exact hrl)) (Nat.lt_of_lt_of_le (show 8 < 2 ^ 4 by decide) (Nat.pow_le_pow_right (by decide) (by decide)))
    have es : sumD [.list (row.map fun p => PyData.int (p.2 : Int))] = some (.int ((rowS (fun _ => 1) (fun q => q == 1) row : Nat) : Int)) := by
      have e0 : (row.map fun p => PyData.int (p.2 : Int)) = natsD (row.map fun p => p.2) := by
        unfold natsD
        rw [List.map_map]
        rfl
      rw [e0, sum_natsD, CM.bits_sum row okr.bit]
    have e2 := mulN hc hb
    refine ex_env rfl ?_
    refine s_env (ρ' := [some (.bor (mcD many M)), some (.bor (.int (k : Int))), some (.fro (.int (F : Int))), some (.fro (.int (c : Int))), some (.fro (.tuple (row.map pairD))), x5, x6]) rfl ?_
    repeat (first | walk_at "s")
    refine MD.l_lc_to pairD (fun p => PyData.int (p.2 : Int)) row ?_
    repeat (first | walk_at "s")
    refine ⟨rfl, MD.fits (by rw [List.length_map]; omega), fun p hp => ?_, ?_⟩
    · refine ex_env rfl ?_
      repeat (first | walk_at "s")
      exact ⟨rfl, rfl⟩
    · repeat (first | with_reducible (first | refine op_ok es ?_ | refine op_ok e2 ?_ | refine op_ok (addN _ _) ?_) | walk_at "s")
      exact ⟨_, _, _, _, _, rfl, by rw [← hf]; omega⟩
  · rintro ρ ⟨⟩ ⟨F, x3, x4, x5, x6, rfl, hf⟩
    have hlen : (((lotsC M k).zip M).map fun z => PyData.tuple [.int (z.1 : Int), rowD z.2]).length = M.length := by
      rw [List.length_map, List.length_zip, lots_len ok.pos, Nat.min_self]
    rw [hlen, List.drop_length] at hf
    have hf : F + zdot (fun _ => 1) (fun q => q == 1) ((lotsC M k).drop M.length) [] = _ := hf
    rw [show zdot (fun _ => 1) (fun q => q == 1) ((lotsC M k).drop M.length) [] = 0 from by cases (lotsC M k).drop M.length <;> rfl, Nat.add_zero] at hf
    rw [← hf]
    repeat (first | walk_at "s")
    rfl
abbrev eA (many : Nat) (M : Mch) (k : Nat) (F : Nat) (cs : List Nat) (x4 x5 x6 x7 x8 x9 x10 : Option Val) : Env := [some (.bor (mcD many M)), some (.bor (.int (k : Int))), some (.fro (.int (F : Int))), some (.fro (.list (natsD cs))), x4, x5, x6, x7, x8, x9, x10]
abbrev one1 : List (Nat × Nat) → Nat := rowS (fun _ => 1) (fun q => q == 1)
def mInA : MS Unit := (mFor (mItems (mV 8)) (gT (gs1 (gN 9) (gs1 (gN 10) gs0)) 2) (mSeq (mPutAt 5 (mV 9) (mBin addD (mBin ixD (mV 5) (mV 9)) (mV 7)))
  (mSet 6 (mRv (mBin addD (mV 6) (mBin mulD (mV 7) (mV 10)))))))
theorem innerA {N B C : Env → Unit → Prop} {R : PyData → Unit → Prop} {k F c h0 : Nat} {cs acc : List Nat} {row : List (Nat × Nat)} {x4 x9 x10 : Option Val} (hc : c < 2 ^ 1000) (hl : acc.length = M.length) (hM : M.length ≤ 1000) (okr : OkRow many M.length row)
    (q : ∀ x9 x10, N (eA many M k F cs x4 (some (.own (.list (natsD (addRow allB c row acc))))) (some (.fro (.int ((h0 + c * one1 row : Nat) : Int)))) (some (.fro (.int (c : Int)))) (some (.fro (.tuple (row.map pairD)))) x9 x10) ()) :
    Es mInA (eA many M k F cs x4 (some (.own (.list (natsD acc)))) (some (.fro (.int (h0 : Int)))) (some (.fro (.int (c : Int)))) (some (.fro (.tuple (row.map pairD)))) x9 x10) () N R B C := by
  unfold mInA
  refine s_for (fun j ρ _ => ∃ acc' h' x9 x10, ρ = eA many M k F cs x4 (some (.own (.list (natsD acc')))) (some (.fro (.int ((h' : Nat) : Int)))) (some (.fro (.int (c : Int)))) (some (.fro (.tuple (row.map pairD)))) x9 x10 ∧ acc'.length = M.length ∧ addRow allB c (row.drop j) acc' = addRow allB c row acc ∧ h' + c * one1 (row.drop j) = h0 + c * one1 row) ?_
  repeat (first | walk_at "s")
  refine ⟨⟨acc, h0, _, _, rfl, hl, rfl, rfl⟩, ?_, ?_⟩
  · rintro j d ρ ⟨⟩ hj ⟨acc', h', y9, y10, rfl, hl', hf, hh⟩
    rw [List.getElem?_map] at hj
    obtain ⟨p, hp, rfl⟩ := Option.map_eq_some_iff.mp hj
    have hg := okr.goal p (List.mem_of_getElem? hp)
    have hb := okr.bit p (List.mem_of_getElem? hp)
    have ea : acc'[p.1]? = some (acc'.getD p.1 0) := by rw [List.getD_eq_getElem?_getD, List.getElem?_eq_getElem (by omega)]; rfl
    have e1 := ixL_nats ea
    have e2 := mulN hc (b := p.2) (Nat.lt_of_lt_of_le hb (by decide : 2 ≤ 2 ^ 1000))
    rw [drop_at hp] at hf hh
    have e3 : one1 (p :: row.drop (j + 1)) = p.2 + one1 (row.drop (j + 1)) := by
      unfold one1 rowS
      rw [List.map_cons, List.sum_cons]
      congr 1
      match p.2, hb with
      | 0, _ => rfl
      | 1, _ => rfl
    rw [e3, Nat.mul_add, ← Nat.add_assoc] at hh
    refine ex_env rfl ?_
    refine s_seq (s_putAt (f_bin (d_f (f_bin (d_v rfl (d_v rfl (op_ok e1 (d_v rfl (op_ok (addN _ _) ?_)))))))))
    repeat (first | walk_at "s")
    refine ⟨(p.1 : Int), natsD acc', p.1, rfl, rfl, ixN_nat (by rw [CN.nats_len]; omega) (by rw [CN.nats_len]; omega), ?_⟩
    rw [nats_set]
    refine s_env (ρ' := eA many M k F cs x4 (some (.own (.list (natsD (acc'.set p.1 (acc'.getD p.1 0 + c)))))) (some (.fro (.int (h' : Int)))) (some (.fro (.int (c : Int)))) (some (.fro (.tuple (row.map pairD)))) (some (.fro (.int (p.1 : Int)))) (some (.fro (.int (p.2 : Int))))) rfl ?_
    repeat (first | with_reducible (first | refine op_ok e2 ?_ | refine op_ok (addN _ _) ?_) | walk_at "s")
    exact ⟨_, _, _, _, rfl, by rw [List.length_set]; exact hl', hf, hh⟩
  · rintro ρ ⟨⟩ ⟨acc', h', y9, y10, rfl, hl', hf, hh⟩
    rw [List.length_map, List.drop_length] at hf hh
    have hf : acc' = addRow allB c row acc := hf
    have hh : h' + c * 0 = h0 + c * one1 row := hh
    rw [Nat.mul_zero, Nat.add_zero] at hh
    subst hf
    subst hh
    exact q y9 y10
theorem all_ones (ok : OkM many M) (hM : M.length ≤ 1000) (hm : many ≤ 3) {k : Nat} (hk : k ≤ 900) (hmk : many * k < 1000) : f__law_all_ones [mcD many M, .int (k : Int)] = some (.int ((onesC M many k : Nat) : Int)) := by
  refine fun_ok ?_
  refine s_env (ρ' := [some (.bor (mcD many M)), some (.bor (.int (k : Int))), none, none, none, none, none, none, none, none, none]) rfl ?_
  show Es (mSeq _ (mSeq (mFor _ _ (mSeq _ (mSeq (mFor _ _ mInA) _))) _)) _ _ _ _ _ _
  obtain ⟨e1, e2, e3, e4⟩ := firsts ok.pos hM
  repeat (first | with_reducible (first | refine op_ok (ix1 _ _ _) ?_ | refine op_ok e1 ?_ | refine op_ok e2 ?_ | refine op_ok e3 ?_ | refine op_ok e4 ?_) | walk_at "s")
  refine s_for (fun j ρ _ => j ≤ k → ∃ x4 x5 x6 x7 x8 x9 x10, ρ = eA many M k (onesC M many j * 2 ^ (many * (k - j))) (lotsC M j) x4 x5 x6 x7 x8 x9 x10) ?_
  repeat (first | walk_at "s")
  have hln : (natsD (List.range (k : Int).toNat)).length = k := by rw [CN.nats_len, List.length_range, Int.toNat_natCast]
  refine ⟨by omega, fun _ => ⟨none, none, none, none, none, none, none, ?_⟩, ?_, ?_⟩
  · show _ = eA many M k (0 * _) _ _ _ _ _ _ _ _
    rw [Nat.zero_mul]
    rfl
  · rintro j d ρ ⟨⟩ hj hP
    have hjk := lt_at hj
    rw [hln] at hjk
    obtain ⟨k2, hk2, rfl⟩ := natsD_at hj
    have hk2j := range_at hk2
    obtain ⟨rfl, _⟩ := hk2j
    obtain ⟨x4, x5, x6, x7, x8, x9, x10, rfl⟩ := hP (by omega)
    have el : lenD [.list (natsD (lotsC M k2))] = some (.int ((M.length : Nat) : Int)) := by
      show some (PyData.int (((natsD (lotsC M k2)).length : Nat) : Int)) = _
      rw [CN.nats_len, lots_len ok.pos]
    have er : repLD (.list [.int 0]) (.int ((M.length : Nat) : Int)) = some (.list (natsD (List.replicate M.length 0))) := by
      rw [repLD_ok (by simp only [List.length_cons, List.length_nil]; omega) (by omega), rep_flat]
      exact congrArg (fun z => some (PyData.list z)) (nats_rep M.length 0)
    refine ex_env rfl ?_
    repeat (first | with_reducible (first | refine op_ok el ?_ | refine op_ok er ?_) | walk_at "s")
    refine s_for (fun j ρ _ => ∃ (acc : List Nat) (h' : Nat) (x7 x8 x9 x10 : Option Val), ρ = eA many M k (onesC M many k2 * 2 ^ (many * (k - k2))) (lotsC M k2) (some (.fro (.int (k2 : Int)))) (some (.own (.list (natsD acc)))) (some (.fro (.int (h' : Int)))) x7 x8 x9 x10 ∧ acc.length = M.length ∧ addRows allB (((lotsC M k2).zip M).drop j) acc = beh M allB (lotsC M k2) ∧ h' + zdot (fun _ => 1) (fun q => q == 1) ((lotsC M k2).drop j) (M.drop j) = zdot (fun _ => 1) (fun q => q == 1) (lotsC M k2) M) ?_
    repeat (first | with_reducible (first | refine op_ok (ix1 _ _ _) ?_) | walk_at "s")
    have hz : zipL (natsD (lotsC M k2)) (M.map rowD) = ((lotsC M k2).zip M).map fun z => .tuple [.int (z.1 : Int), rowD z.2] := zipL_nats _ M
    rw [hz]
    refine ⟨⟨_, 0, _, _, _, _, rfl, List.length_replicate .., rfl, Nat.zero_add _⟩, ?_, ?_⟩
    · rintro j d ρ ⟨⟩ hj ⟨acc, h', y7, y8, y9, y10, rfl, hla, hf, hh⟩
      rw [List.getElem?_map] at hj
      obtain ⟨⟨c, row⟩, hzj, rfl⟩ := Option.map_eq_some_iff.mp hj
      rw [drop_at hzj] at hf
      rw [CM.zdot_drop _ _ _ _ _ _ _ hzj, ← Nat.add_assoc] at hh
      have hme := List.of_mem_zip (List.mem_of_getElem? hzj)
      have hc : c < 2 ^ 1000 := Nat.lt_of_le_of_lt (CM.lots_le ok hme.1) (Nat.pow_lt_pow_right (by decide) (Nat.lt_of_le_of_lt (Nat.mul_le_mul_left many (Nat.le_of_lt hjk)) hmk))
      refine ex_env rfl ?_
      refine s_env (ρ' := eA many M k (onesC M many k2 * 2 ^ (many * (k - k2))) (lotsC M k2) (some (.fro (.int (k2 : Int)))) (some (.own (.list (natsD acc)))) (some (.fro (.int (h' : Int)))) (some (.fro (.int (c : Int)))) (some (.fro (.tuple (row.map pairD)))) y9 y10) rfl ?_
      exact innerA hc hla hM (ok.row row hme.2) fun x9 x10 => ⟨_, _, _, _, _, _, rfl, by rw [addRow_len]; exact hla, hf, hh⟩
    · rintro ρ ⟨⟩ ⟨acc, h', y7, y8, y9, y10, rfl, hla, hf, hh⟩
      have hlen : (((lotsC M k2).zip M).map fun z => PyData.tuple [.int (z.1 : Int), rowD z.2]).length = M.length := by
        rw [List.length_map, List.length_zip, lots_len ok.pos, Nat.min_self]
      rw [hlen, List.drop_length] at hh
      rw [List.length_map, List.drop_length] at hf
      have hf : acc = lotsC M (k2 + 1) := hf
      have hh : h' + zdot (fun _ => 1) (fun q => q == 1) ((lotsC M k2).drop M.length) [] = _ := hh
      rw [show zdot (fun _ => 1) (fun q => q == 1) ((lotsC M k2).drop M.length) [] = 0 from by cases (lotsC M k2).drop M.length <;> rfl, Nat.add_zero, ← CM.at_sum ok] at hh
      subst hf
      have f1 : subD (.int (k : Int)) (.int 1) = some (.int ((k - 1 : Nat) : Int)) := subN (a := k) (b := 1) (by omega)
      have f2 : subD (.int ((k - 1 : Nat) : Int)) (.int (k2 : Int)) = some (.int ((k - 1 - k2 : Nat) : Int)) := subN (by omega)
      have f3 := mulN (a := many) (b := k - 1 - k2) (Nat.lt_of_le_of_lt hm (by decide : 3 < 2 ^ 1000)) (Nat.lt_of_le_of_lt (show k - 1 - k2 ≤ 900 by omega) (by decide : 900 < 2 ^ 1000))
      have hle : h' < 2 ^ 100000 := by
        rw [hh]
        exact Nat.lt_of_le_of_lt (CN.onesAt_le ok k2) (Nat.pow_lt_pow_right (by decide) (by have := Nat.mul_le_mul hm (show k2 + 1 ≤ 900 by omega); omega))
      have f4 := CN.shl_nat (a := h') (n := many * (k - 1 - k2)) hle (by have := Nat.mul_le_mul_left many (show k - 1 - k2 ≤ k by omega); omega)
      have f5 : onesC M many k2 * 2 ^ (many * (k - k2)) + h' * 2 ^ (many * (k - 1 - k2)) = onesC M many (k2 + 1) * 2 ^ (many * (k - (k2 + 1))) := by
        show _ = (onesC M many k2 * 2 ^ many + (beh M (fun q => q == 1) (lotsC M k2)).sum) * _
        rw [← hh, Nat.add_mul, show k - (k2 + 1) = k - 1 - k2 by omega, show k - k2 = (k - 1 - k2) + 1 by omega, Nat.mul_add, Nat.mul_one, Nat.pow_add, Nat.mul_assoc, Nat.mul_comm (2 ^ (many * (k - 1 - k2)))]
      refine MD.s_fz rfl ?_
      have ei0 : ixD (mcD many M) (.int 0) = some (.int (many : Int)) := atI_nat (j := 0) rfl
      repeat (first | with_reducible (first | refine op_ok ei0 ?_ | refine op_ok f1 ?_ | refine op_ok f2 ?_ | refine op_ok f3 ?_ | refine op_ok f4 ?_ | refine op_ok (addN _ _) ?_) | walk_at "s")
      rw [f5]
      exact fun _ => ⟨_, _, _, _, _, _, _, rfl⟩
  · rintro ρ ⟨⟩ hP
    rw [hln] at hP
    obtain ⟨x4, x5, x6, x7, x8, x9, x10, rfl⟩ := hP (Nat.le_refl k)
    rw [Nat.sub_self, Nat.mul_zero, Nat.pow_zero, Nat.mul_one]
    repeat (first | walk_at "s")
    rfl
end
end Mi.K10
/-! k10: machines renamed and doubled. -/
namespace Mi.K10
open PySem L2 TI CN
open TA (TrOk)
open TK (l_rg2)
open MD (GoodRow)
open LM (pos pos_lt pos_at)
local macro_rules | `(tactic| walk_at "op") => `(tactic| with_reducible first
  | exact o_add | exact o_addI | exact o_sub | exact o_lt | exact o_le | exact o_gt | exact o_ge | exact o_eqI | exact o_neI | exact o_eqS | exact o_neS | exact o_neg | exact o_inv | exact o_and | exact o_or | exact o_xor
  | exact o_int | exact o_intB | exact o_abs | exact o_tupL | exact o_tupT | exact o_lenL | exact o_lenT | exact o_isN | exact o_isNotN)
local macro_rules | `(tactic| walk_at "ix") => `(tactic| ((with_reducible apply o_ixA); (first | apply o_ixL | apply o_ixT | apply o_dixS); focus rfl))
local macro_rules | `(tactic| walk_at "op2") => `(tactic| first
  | ((with_reducible apply o_inA); focus rfl)
  | ((with_reducible apply o_notInA); focus rfl)
  | (with_reducible (first | refine o_addL ?_ | refine o_addT ?_); simp only [List.length_cons, List.length_nil]; decide)
  | ((with_reducible apply o_modA); focus (exact mod_ok (by decide)))
  | ((with_reducible apply o_fdivA); focus (exact o_fdiv (by decide) (by decide))))
local macro_rules | `(tactic| walk_at "call") => `(tactic| fail)
local macro_rules | `(tactic| walk_at "s") => `(tactic| first
  | ((with_reducible apply s_set_env); focus (dsimp only [List.set] <;> rfl))
  | ((with_reducible apply f_callPK); (focus rfl); (focus rfl))
  | with_reducible first
    | refine s_seq ?_ | refine d_f (f_bin ?_) | refine d_f (f_c ?_) | refine s_set ?_ | refine v_rv ?_ | refine s_if ?_ | refine b_test ?_ | refine f_bin ?_ | refine f_c ?_ | refine s_ret ?_ | refine s_skip ?_
    | refine r_cons ?_ | refine r_nil ?_ | refine a_consT ?_ | refine a_nil ?_ | refine k_cons ?_ | refine k_nil ?_ | refine a_consF ?_
    | refine f_call ?_ | refine f_callP ?_ | refine f_keep ?_ | refine f_tup ?_ | refine f_if ?_ | refine f_andV ?_ | refine f_orV ?_ | refine f_notV ?_ | refine f_isi ?_ | refine f_sl ?_ | refine f_un ?_ | refine f_chain ?_
    | refine b_and ?_ | refine b_or ?_ | refine b_not ?_ | refine b_yes ?_
    | refine s_asg ?_ | refine s_app ?_ | refine s_par ?_ | refine s_pars ?_ | refine s_drop ?_ | refine s_retN ?_ | refine s_break ?_ | refine s_cont ?_ | refine s_end ?_ | refine s_setP ?_ | refine s_dropP ?_ | refine s_appP ?_ | refine p_at ?_ | refine p_end ?_ | refine s_par3 ?_ | refine ex_three ?_ | refine i_zip ?_ | refine zz_L ?_ | refine zz_T ?_ | refine l_revL ?_ | refine ex_lst ?_
    | refine l_lst ?_ | refine l_dict ?_ | refine l_listL ?_ | refine o_no ?_ | refine o_part ?_ | refine i_enum ?_ | refine i_range1 ?_ | refine v_new ?_ | refine vs_nil ?_ | refine vs_cons ?_
  | ((with_reducible apply d_v); focus rfl)
  | ((with_reducible apply f_v); focus rfl)
  | ((with_reducible apply s_aug); focus rfl)
  | ((with_reducible apply f_callT); focus rfl)
  | ((with_reducible apply w_b); (focus rfl))
  | ((with_reducible apply i_itemsB); (focus rfl); (focus rfl))
  | with_reducible first | refine d_f ?_ | refine w_f ?_ | refine i_items ?_
  | ((with_reducible refine if_yes ?_ ?_); focus rfl)
  | ((with_reducible refine if_no ?_ ?_); focus rfl)
  | ((with_reducible apply op_ok); focus (first | walk_at "op" | walk_at "ix" | walk_at "op2"))
  | ((with_reducible refine len_ok ?_ ?_); focus (simp only [List.length_cons, List.length_nil]; decide))
  | ((with_reducible refine pk_ok ?_ ?_); focus rfl)
  | ((with_reducible refine lt_ok ?_ ?_); focus (simp only [List.length_append, List.length_cons, List.length_nil]; decide))
  | ((with_reducible refine dict_ok ?_ ?_); focus (exact ⟨rfl, by decide, by decide⟩))
  | ((with_reducible refine par_ok ?_ ?_); focus (refine ⟨?_, rfl⟩; simp only [List.length_cons, List.length_nil]; decide))
  | walk_at "call"
  | with_reducible first | refine ex_bool ?_ | refine ex_int ?_ | refine ex_itL ?_ | refine ex_itT ?_ | refine ex_rng ?_ | refine ex_two ?_ | refine ex_lstL ?_ | refine ex_lstT ?_
  | ((with_reducible apply ex_env); focus rfl)
  | ((with_reducible apply ex_own); focus rfl))
local macro_rules | `(tactic| walk_at "call") => `(tactic| with_reducible first | refine i_zip2 ?_ | refine l_repL ?_ | refine zz2_L ?_ | refine zz2_T ?_ | refine zz2_X ?_ | refine l_rg2 ?_ | refine f_mth ?_)
theorem q_draw : f__law_draw = TA.f__law_draw := rfl
theorem q_pick : f__law_pick = TA.f__law_pick := rfl
theorem q_mixed : f__law_mixed = MD.f__law_mixed := rfl
theorem q_lots : f_lots = CN.f_lots := rfl
section
variable {many : Nat} {M : Mch}
theorem ok_of {c : Nat} {N : Mch} {hm : Nat → Nat} (ok : OkM many M) (hc : 0 < c) (hN : N.length = c) (hlt : ∀ k, k < c → hm k < M.length) (hr : ∀ k, k < c → ∃ dst, N[k]? = some dst ∧ GoodRow c hm (M.getD (hm k) []) dst) : OkM many N := by
  refine ⟨by omega, fun r hrm => ?_⟩
  obtain ⟨k, hkl, rfl⟩ := List.getElem_of_mem hrm
  obtain ⟨dst, g1, g2, g3⟩ := hr k (by omega)
  rw [List.getElem?_eq_getElem hkl] at g1
  cases g1
  have hi := hlt k (by omega)
  have em : M[hm k]? = some (M.getD (hm k) []) := by rw [List.getD_eq_getElem?_getD (l := M), List.getElem?_eq_getElem hi]; rfl
  have okr := ok.row _ (List.mem_of_getElem? em)
  have cell : ∀ p ∈ N[k], p.1 < c ∧ p.2 < 2 := fun p hp => by
    obtain ⟨l, hl, rfl⟩ := List.getElem_of_mem hp
    have hl2 : l < (M.getD (hm k) []).length := by omega
    obtain ⟨k', j1, j2, _⟩ := g3 l _ (List.getElem?_eq_getElem hl2)
    rw [List.getElem?_eq_getElem hl] at j1
    have j1 := Option.some.inj j1
    rw [j1]
    have hb := okr.bit _ (List.getElem_mem hl2)
    exact ⟨j2, hb⟩
  exact ⟨by rw [g2]; exact okr.len, fun p hp => by rw [hN]; exact (cell p hp).1, fun p hp => (cell p hp).2⟩
def renM (order : List Nat) (M : Mch) : Mch := order.map fun old => (M.getD old []).map fun p => (pos order p.1, p.2)
theorem renamed {n : Int} {t : Tr} {P : PyData → Tr → Prop} (h : TrOk n t) (hn : n ≤ 800000000) (ok : OkM many M) (hM : M.length ≤ 50) (hm : many ≤ 3)
    (q : ∀ (N : Mch) (ns : List Nat) (t' : Tr), TrOk (n + 100) t' → OkM many N → N.length = M.length → LM.beh many N M 0 0 → ns.length = M.length → (∀ m ∈ ns, m < M.length) → (∀ k, ns.map (fun m => (lotsC N k).getD m 0) = lotsC M k) → P (.tuple [mcD many N, .list (natsD ns)]) t') : ∃ z t2, f__law_renamed t [mcD many M] = some (z, t2) ∧ P z t2 := by
  have pos0 := ok.pos
  have hpow : 2 ^ many ≤ 8 := Nat.pow_le_pow_right (n := 2) (by decide) hm
  have el : lenD [.tuple (M.map rowD)] = some (.int (M.length : Int)) := by
    show some (PyData.int ((M.map rowD).length : Int)) = _
    rw [List.length_map]
  refine funT_ok ?_
  refine s_env (ρ' := [some (.tray 0), some (.bor (mcD many M)), none, none, none, none, none, none, none, none]) rfl ?_
  unfold m__law_renamed
  rw [q_mixed]
  repeat (first | with_reducible (first | refine op_ok el ?_) | walk_at "s")
  refine ⟨1, M.length - 1, rfl, by rw [show 1 + (M.length - 1) = M.length by omega], by omega, ?_⟩
  repeat (first | walk_at "s")
  refine MD.mixedN h (by omega) (by rw [List.length_map, List.length_range]; omega) fun ys t3 h3 hp => ?_
  have hp := MD.range_perm (c := M.length) (by omega) hp
  have eo : addD (.list [.int 0]) (.list (natsD ys)) = some (.list (natsD (0 :: ys))) := by
    have hys : ys.length + 1 = M.length := by
      have := hp.length_eq
      rw [List.length_range] at this
      exact this
    exact MD.addL_nats (as := [0]) (bs := ys) (by show 1 + _ ≤ _; omega)
  have ho0 : (0 :: ys)[0]? = some 0 := rfl
  repeat (first | with_reducible (first | refine op_ok eo ?_) | walk_at "s")
  generalize 0 :: ys = order at hp ho0 ⊢
  have hord : order.length = M.length := by rw [hp.length_eq, List.length_range]
  have hin : ∀ g, g < M.length → g ∈ order := fun g hg => hp.mem_iff.mpr (List.mem_range.mpr hg)
  have hlt : ∀ o ∈ order, o < M.length := fun o ho => List.mem_range.mp (hp.mem_iff.mp ho)
  have hnd : order.Nodup := hp.nodup_iff.mpr List.nodup_range
  refine MD.l_lc_to (fun s : Nat => PyData.int (s : Int)) (fun s => rowD ((M.getD s []).map fun p => (pos order p.1, p.2))) order ?_
  repeat (first | walk_at "s")
  refine ⟨rfl, MD.fits (by rw [CN.nats_len]; omega), fun s hs => ?_, ?_⟩
  · have hsl := hlt s hs
    have er : M[s]? = some (M.getD s []) := by rw [List.getD_eq_getElem?_getD (l := M), List.getElem?_eq_getElem hsl]; rfl
    have okr := ok.row _ (List.mem_of_getElem? er)
    have e1 : ixD (.tuple (M.map rowD)) (.int (s : Int)) = some (.tuple ((M.getD s []).map pairD)) := atI_nat (by rw [List.getElem?_map, er]; rfl)
    generalize M.getD s [] = src at e1 okr
    have hsl2 := okr.len
    refine ex_env rfl ?_
    repeat (first | walk_at "s")
    refine MD.l_lc_to pairD (fun p => pairD (pos order p.1, p.2)) src ?_
    repeat (first | with_reducible (first | refine op_ok e1 ?_) | walk_at "s")
    refine ⟨rfl, MD.fits (by rw [List.length_map]; omega), fun p hpm => ?_, ?_⟩
    · have ei := MD.idx_nat (hin p.1 (okr.goal p hpm))
      refine ex_env rfl ?_
      repeat (first | with_reducible (first | refine op_ok ei ?_) | walk_at "s")
      exact ⟨rfl, rfl⟩
    · repeat (first | walk_at "s")
      refine ⟨?_, rfl⟩
      unfold rowD
      rw [List.map_map]
      rfl
  repeat (first | walk_at "s")
  have hN : (order.map fun s => rowD ((M.getD s []).map fun p => (pos order p.1, p.2))) = (renM order M).map rowD := by
    unfold renM
    rw [List.map_map]
    rfl
  rw [hN]
  refine ⟨_, rfl, ?_⟩
  repeat (first | walk_at "s")
  refine MD.l_lc_to (fun s : Nat => PyData.int (s : Int)) (fun s => PyData.int ((pos order s : Nat) : Int)) (List.range M.length) ?_
  repeat (first | with_reducible (first | refine op_ok el ?_) | walk_at "s")
  rw [Int.toNat_natCast]
  refine ⟨by omega, ⟨rfl, MD.fits (by rw [CN.nats_len, List.length_range]; omega), fun s hs => ?_, ?_⟩⟩
  · have ei := MD.idx_nat (hin s (List.mem_range.mp hs))
    refine ex_env rfl ?_
    repeat (first | with_reducible (first | refine op_ok ei ?_) | walk_at "s")
    exact ⟨rfl, rfl⟩
  repeat (first | walk_at "s")
  have hns : ((List.range M.length).map fun s => PyData.int ((pos order s : Nat) : Int)) = natsD ((List.range M.length).map (pos order)) := by
    unfold natsD
    rw [List.map_map]
    rfl
  rw [hns]
  have hNl : (renM order M).length = M.length := by
    unfold renM
    rw [List.length_map, hord]
  have hidx : ∀ k, k < M.length → order.getD k 0 < M.length := fun k hk => by
    have e1 : order[k]? = some (order.getD k 0) := by rw [List.getD_eq_getElem?_getD, List.getElem?_eq_getElem (by omega)]; rfl
    exact hlt _ (List.mem_of_getElem? e1)
  have hr : ∀ k, k < M.length → ∃ dst, (renM order M)[k]? = some dst ∧ GoodRow M.length (fun k => order.getD k 0) (M.getD (order.getD k 0) []) dst := fun k hk => by
    have e1 : order[k]? = some (order.getD k 0) := by rw [List.getD_eq_getElem?_getD, List.getElem?_eq_getElem (by omega)]; rfl
    refine ⟨_, by unfold renM; rw [List.getElem?_map, e1]; rfl, by rw [List.length_map], fun l p hpl => ?_⟩
    have er : M[order.getD k 0]? = some (M.getD (order.getD k 0) []) := by rw [List.getD_eq_getElem?_getD (l := M), List.getElem?_eq_getElem (hidx k hk)]; rfl
    have okr := ok.row _ (List.mem_of_getElem? er)
    have hg := okr.goal p (List.mem_of_getElem? hpl)
    obtain ⟨p1, p2⟩ := pos_lt (hin p.1 hg)
    refine ⟨pos order p.1, by rw [List.getElem?_map, hpl]; rfl, by omega, ?_⟩
    show order.getD (pos order p.1) 0 = p.1
    rw [List.getD_eq_getElem?_getD, p2]
    rfl
  have h00 : order.getD 0 0 = 0 := by
    rw [List.getD_eq_getElem?_getD, ho0]
    rfl
  have okN := ok_of (hm := fun k => order.getD k 0) ok pos0 hNl hidx hr
  refine q _ _ t3 h3 okN hNl (MD.grown_beh (hm := fun k => order.getD k 0) ok h00 pos0 hidx hr) (by rw [List.length_map, List.length_range]) ?_ fun k => ?_
  · intro m hmm
    obtain ⟨g, hg, rfl⟩ := List.mem_map.mp hmm
    have := (pos_lt (hin g (List.mem_range.mp hg))).1
    omega
  · refine List.ext_getElem? fun g => ?_
    rw [List.map_map, List.getElem?_map]
    by_cases hg : g < M.length
    · rw [List.getElem?_range hg]
      have e1 : (lotsC M k)[g]? = some ((lotsC M k).getD g 0) := by rw [List.getD_eq_getElem?_getD, List.getElem?_eq_getElem (by rw [lots_len pos0]; exact hg)]; rfl
      rw [e1, ← CM.lots_moved okN ok (pos order) k g fun s o => ?_]
      · rfl
      · obtain ⟨r1, r2⟩ := MD.grown_run (hm := fun k => order.getD k 0) ok hidx hr s 0 o pos0
        have r2 : order.getD (runS (renM order M) 0 s) 0 = runS M (order.getD 0 0) s := r2
        rw [h00] at r2
        have e2 : order[runS (renM order M) 0 s]? = some (order.getD (runS (renM order M) 0 s) 0) := by rw [List.getD_eq_getElem?_getD, List.getElem?_eq_getElem (by omega)]; rfl
        constructor
        · intro e
          rw [e, List.getD_eq_getElem?_getD, (pos_lt (hin g hg)).2] at r2
          exact r2.symm
        · intro e
          rw [r2, e] at e2
          exact (pos_at hnd e2).symm
    · rw [List.getElem?_eq_none (by rw [List.length_range]; omega), List.getElem?_eq_none (by rw [lots_len pos0]; omega)]
      rfl
end
end Mi.K10
/-! k10: machines doubled. -/
namespace Mi.K10
open PySem L2 TI CN
open TA (TrOk)
open TK (l_rg2)
open MD (GoodRow)
local macro_rules | `(tactic| walk_at "op") => `(tactic| with_reducible first
  | exact o_add | exact o_addI | exact o_sub | exact o_lt | exact o_le | exact o_gt | exact o_ge | exact o_eqI | exact o_neI | exact o_eqS | exact o_neS | exact o_neg | exact o_inv | exact o_and | exact o_or | exact o_xor
  | exact o_int | exact o_intB | exact o_abs | exact o_tupL | exact o_tupT | exact o_lenL | exact o_lenT | exact o_isN | exact o_isNotN)
local macro_rules | `(tactic| walk_at "ix") => `(tactic| ((with_reducible apply o_ixA); (first | apply o_ixL | apply o_ixT | apply o_dixS); focus rfl))
local macro_rules | `(tactic| walk_at "op2") => `(tactic| first
  | ((with_reducible apply o_inA); focus rfl)
  | ((with_reducible apply o_notInA); focus rfl)
  | (with_reducible (first | refine o_addL ?_ | refine o_addT ?_); simp only [List.length_cons, List.length_nil]; decide)
  | ((with_reducible apply o_modA); focus (exact mod_ok (by decide)))
  | ((with_reducible apply o_fdivA); focus (exact o_fdiv (by decide) (by decide))))
local macro_rules | `(tactic| walk_at "call") => `(tactic| fail)
local macro_rules | `(tactic| walk_at "s") => `(tactic| first
  | ((with_reducible apply s_set_env); focus (dsimp only [List.set] <;> rfl))
  | ((with_reducible apply f_callPK); (focus rfl); (focus rfl))
  | with_reducible first
    | refine s_seq ?_ | refine d_f (f_bin ?_) | refine d_f (f_c ?_) | refine s_set ?_ | refine v_rv ?_ | refine s_if ?_ | refine b_test ?_ | refine f_bin ?_ | refine f_c ?_ | refine s_ret ?_ | refine s_skip ?_
    | refine r_cons ?_ | refine r_nil ?_ | refine a_consT ?_ | refine a_nil ?_ | refine k_cons ?_ | refine k_nil ?_ | refine a_consF ?_
    | refine f_call ?_ | refine f_callP ?_ | refine f_keep ?_ | refine f_tup ?_ | refine f_if ?_ | refine f_andV ?_ | refine f_orV ?_ | refine f_notV ?_ | refine f_isi ?_ | refine f_sl ?_ | refine f_un ?_ | refine f_chain ?_
    | refine b_and ?_ | refine b_or ?_ | refine b_not ?_ | refine b_yes ?_
    | refine s_asg ?_ | refine s_app ?_ | refine s_par ?_ | refine s_pars ?_ | refine s_drop ?_ | refine s_retN ?_ | refine s_break ?_ | refine s_cont ?_ | refine s_end ?_ | refine s_setP ?_ | refine s_dropP ?_ | refine s_appP ?_ | refine p_at ?_ | refine p_end ?_ | refine s_par3 ?_ | refine ex_three ?_ | refine i_zip ?_ | refine zz_L ?_ | refine zz_T ?_ | refine l_revL ?_ | refine ex_lst ?_
    | refine l_lst ?_ | refine l_dict ?_ | refine l_listL ?_ | refine o_no ?_ | refine o_part ?_ | refine i_enum ?_ | refine i_range1 ?_ | refine v_new ?_ | refine vs_nil ?_ | refine vs_cons ?_
  | ((with_reducible apply d_v); focus rfl)
  | ((with_reducible apply f_v); focus rfl)
  | ((with_reducible apply s_aug); focus rfl)
  | ((with_reducible apply f_callT); focus rfl)
  | ((with_reducible apply w_b); (focus rfl))
  | ((with_reducible apply i_itemsB); (focus rfl); (focus rfl))
  | with_reducible first | refine d_f ?_ | refine w_f ?_ | refine i_items ?_
  | ((with_reducible refine if_yes ?_ ?_); focus rfl)
  | ((with_reducible refine if_no ?_ ?_); focus rfl)
  | ((with_reducible apply op_ok); focus (first | walk_at "op" | walk_at "ix" | walk_at "op2"))
  | ((with_reducible refine len_ok ?_ ?_); focus (simp only [List.length_cons, List.length_nil]; decide))
  | ((with_reducible refine pk_ok ?_ ?_); focus rfl)
  | ((with_reducible refine lt_ok ?_ ?_); focus (simp only [List.length_append, List.length_cons, List.length_nil]; decide))
  | ((with_reducible refine dict_ok ?_ ?_); focus (exact ⟨rfl, by decide, by decide⟩))
  | ((with_reducible refine par_ok ?_ ?_); focus (refine ⟨?_, rfl⟩; simp only [List.length_cons, List.length_nil]; decide))
  | walk_at "call"
  | with_reducible first | refine ex_bool ?_ | refine ex_int ?_ | refine ex_itL ?_ | refine ex_itT ?_ | refine ex_rng ?_ | refine ex_two ?_ | refine ex_lstL ?_ | refine ex_lstT ?_
  | ((with_reducible apply ex_env); focus rfl)
  | ((with_reducible apply ex_own); focus rfl))
local macro_rules | `(tactic| walk_at "call") => `(tactic| with_reducible first | refine i_zip2 ?_ | refine l_repL ?_ | refine zz2_L ?_ | refine zz2_T ?_ | refine zz2_X ?_ | refine l_rg2 ?_ | refine f_mth ?_)
abbrev eD (m1 many rows : PyData) (x4 x5 x6 x7 x8 x9 x10 x11 x12 : Option Val) : Env := [some (.tray 0), some (.bor m1), some (.fro many), some (.fro rows), x4, x5, x6, x7, x8, x9, x10, x11, x12]
abbrev mRowB : MS Tr := (mSeq (mSet 7 (mNew (mLst mNil)))
  (mSeq (mFor (mItems (mBin ixD (mV 3) (mV 6))) (gT (gs1 (gN 8) (gs1 (gN 9) gs0)) 2) (mApp 7 (mTup (mCons (mCallT [true] TA.f__law_pick (mCons (mV 0) (mCons (mKeep (mLc (mEnum (mV 4)) (gT (gs1 (gN 11) (gs1 (gN 12) gs0)) 2) (mTest (mBin eqD (mV 12) (mV 8))) (mV 11) [11, 12])) mNil))) (mCons (mV 9) mNil)))))
  (mApp 5 (mCall tupleD (mCons (mV 7) mNil)))))
section
variable {R : PyData → Tr → Prop} {B C : Env → Tr → Prop}
theorem rowW {n : Int} {t : Tr} {many c s : Nat} {M : Mch} {olds : List Nat} {F : Mch} {m1 : PyData} {x7 x8 x9 x10 x11 x12 : Option Val} (h : TrOk n t) (hn : n ≤ 800000000) (ok : OkM many M) (hm : many ≤ 2)
    (hol : olds.length = c) (hc : c ≤ 100) (hin : ∀ g, g < M.length → g ∈ olds) (hs : s < M.length) (hF : F.length ≤ 100) :
    Es mRowB (eD m1 (.int (many : Int)) (.tuple (M.map rowD)) (some (.fro (.list (natsD olds)))) (some (.own (.list (F.map rowD)))) (some (.fro (.int (s : Int)))) x7 x8 x9 x10 x11 x12) t
      (fun ρ t' => TrOk (n + 5) t' ∧ ∃ dst y7 y8 y9 y11 y12, GoodRow c (fun k => olds.getD k 0) (M.getD s []) dst ∧ ρ = eD m1 (.int (many : Int)) (.tuple (M.map rowD)) (some (.fro (.list (natsD olds)))) (some (.own (.list ((F ++ [dst]).map rowD)))) (some (.fro (.int (s : Int)))) y7 y8 y9 x10 y11 y12) R No No := by
  have er : M[s]? = some (M.getD s []) := by rw [List.getD_eq_getElem?_getD (l := M), List.getElem?_eq_getElem hs]; rfl
  have e2 : ixD (.tuple (M.map rowD)) (.int (s : Int)) = some (.tuple ((M.getD s []).map pairD)) := atI_nat (by rw [List.getElem?_map, er]; rfl)
  have okr := ok.row _ (List.mem_of_getElem? er)
  have hpow : 2 ^ many ≤ 4 := Nat.pow_le_pow_right (n := 2) (by decide) hm
  generalize M.getD s [] = src at e2 okr
  have hsl := okr.len
  repeat (first | walk_at "s")
  refine s_for (fun i ρ t => ∃ (dst : List (Nat × Nat)) (y8 y9 y11 y12 : Option Val), dst.length = i ∧ (∀ (l : Nat) (p : Nat × Nat), l < i → src[l]? = some p → ∃ k', dst[l]? = some (k', p.2) ∧ k' < c ∧ olds.getD k' 0 = p.1) ∧ TrOk (n + i) t ∧ ρ = eD m1 (.int (many : Int)) (.tuple (M.map rowD)) (some (.fro (.list (natsD olds)))) (some (.own (.list (F.map rowD)))) (some (.fro (.int (s : Int)))) (some (.own (.list (dst.map pairD)))) y8 y9 x10 y11 y12) ?_
  repeat (first | with_reducible (first | refine op_ok e2 ?_) | walk_at "s")
  refine ⟨⟨[], _, _, _, _, rfl, fun l p hl => absurd hl (Nat.not_lt_zero _), h.mono (by omega), rfl⟩, ?_, ?_⟩
  · rintro i d ρ t hi ⟨dst, y8, y9, y11, y12, hl, hd, ht, rfl⟩
    rw [List.getElem?_map] at hi
    obtain ⟨p, hpi, rfl⟩ := Option.map_eq_some_iff.mp hi
    have hil := lt_at hpi
    have hpg : p.1 < M.length := okr.goal p (List.mem_of_getElem? hpi)
    refine ex_env rfl ?_
    repeat (first | walk_at "s")
    refine l_lc (fun o acc t' => t' = t ∧ acc = natsD ((List.range o).filter fun x => decide (olds.getD x 0 = p.1))) ?_
    repeat (first | walk_at "s")
    refine ⟨MD.fits (by rw [withIx_len, CN.nats_len]; omega), ⟨rfl, rfl⟩, ?_, ?_⟩
    · rintro o d acc t' ho ⟨rfl, rfl⟩
      obtain ⟨d0, hd0, rfl⟩ := withIx_at ho
      obtain ⟨old, hold, rfl⟩ := natsD_at hd0
      have eg : olds.getD o 0 = old := by rw [List.getD_eq_getElem?_getD, hold]; rfl
      refine ex_env rfl ?_
      repeat (first | with_reducible (first | refine op_ok (eq_int _ _) ?_) | walk_at "s")
      rw [List.range_succ, List.filter_append]
      refine if_both (fun hb => ?_) (fun hb => ?_)
      · have e : old = p.1 := by
          have := of_decide_eq_true hb
          omega
        repeat (first | walk_at "s")
        refine ⟨rfl, ?_⟩
        rw [List.filter_cons_of_pos (by rw [eg]; exact decide_eq_true e), List.filter_nil, natsD_snoc]
      · have e : old ≠ p.1 := by
          have := of_decide_eq_false hb
          omega
        refine ⟨rfl, ?_⟩
        rw [List.filter_cons_of_neg (by rw [eg, decide_eq_false e]; decide), List.filter_nil, List.append_nil]
    · rintro acc t' ⟨rfl, rfl⟩
      rw [withIx_len, CN.nats_len, hol]
      obtain ⟨g0, hg0, hg1⟩ := List.getElem_of_mem (hin _ hpg)
      have m0 : g0 ∈ (List.range c).filter fun x => decide (olds.getD x 0 = p.1) := by
        refine List.mem_filter.mpr ⟨List.mem_range.mpr (by omega), decide_eq_true ?_⟩
        rw [List.getD_eq_getElem?_getD, List.getElem?_eq_getElem hg0]
        exact hg1
      have hne : natsD ((List.range c).filter fun x => decide (olds.getD x 0 = p.1)) ≠ [] := by
        intro hh
        have : (natsD ((List.range c).filter fun x => decide (olds.getD x 0 = p.1))).length = 0 := by rw [hh]; rfl
        rw [CN.nats_len] at this
        have := List.length_pos_of_mem m0
        omega
      have hlen : (natsD ((List.range c).filter fun x => decide (olds.getD x 0 = p.1))).length ≤ c := by
        rw [CN.nats_len]
        exact Nat.le_trans (List.length_filter_le _ _) (by rw [List.length_range]; exact Nat.le_refl _)
      repeat (first | walk_at "s")
      refine pickT ht (by omega) hne (by omega) fun x t2 h2 hx => ?_
      obtain ⟨own, hown, rfl⟩ := List.mem_map.mp hx
      obtain ⟨ho1, ho2⟩ := List.mem_filter.mp hown
      have ho2 := of_decide_eq_true ho2
      have ho1 := List.mem_range.mp ho1
      repeat (first | walk_at "s")
      refine ⟨MD.fits' (by rw [List.length_map]; omega), dst ++ [(own, p.2)], some (.fro (.int (p.1 : Int))), some (.fro (.int (p.2 : Int))), y11, y12, ?_, ?_, h2.mono (by omega), ?_⟩
      · rw [List.length_append, hl]; rfl
      · intro l p' hl' hp'
        by_cases hli : l < i
        · obtain ⟨k', g1, g2⟩ := hd l p' hli hp'
          exact ⟨k', by rw [List.getElem?_append_left (by omega)]; exact g1, g2⟩
        · have : l = i := by omega
          subst this
          rw [hpi] at hp'
          cases hp'
          refine ⟨own, ?_, ho1, ho2⟩
          rw [List.getElem?_append_right (by omega), hl, Nat.sub_self]
          rfl
      · rw [List.map_append]
        rfl
  · rintro ρ t' ⟨dst, y8, y9, y11, y12, hl, hd, ht, rfl⟩
    rw [List.length_map] at hl hd ht
    repeat (first | walk_at "s")
    refine ⟨MD.fits' (by rw [List.length_map]; omega), ht.mono (by omega), dst, some (.own (.list (dst.map pairD))), y8, y9, y11, y12, ⟨hl, fun l p hp => hd l p (lt_at hp) hp⟩, ?_⟩
    rw [List.map_append]
    rfl
end
section
variable {many : Nat} {M : Mch}
theorem doubled {n : Int} {t : Tr} {P : PyData → Tr → Prop} (h : TrOk n t) (hn : n ≤ 700000000) (ok : OkM many M) (hM : M.length ≤ 20) (hm : many ≤ 2)
    (q : ∀ (N : Mch) (olds : List Nat) (t' : Tr), TrOk (n + 300) t' → OkM many N → N.length = M.length + 4 → LM.beh many N M 0 0 → olds.length = N.length → (∀ o ∈ olds, o < M.length) → (∀ (k : Nat) (f : Nat → Nat), dot (fun g => f (olds.getD g 0)) (lotsC N k) 0 = dot f (lotsC M k) 0) → P (.tuple [mcD many N, .list (natsD olds)]) t') : ∃ z t2, f__law_doubled t [mcD many M] = some (z, t2) ∧ P z t2 := by
  have pos0 := ok.pos
  have el : lenD [.tuple (M.map rowD)] = some (.int (M.length : Int)) := by
    show some (PyData.int ((M.map rowD).length : Int)) = _
    rw [List.length_map]
  refine funT_ok ?_
  refine s_env (ρ' := [some (.tray 0), some (.bor (mcD many M)), none, none, none, none, none, none, none, none, none, none, none]) rfl ?_
  unfold m__law_doubled
  rw [q_mixed, q_draw, q_pick]
  repeat (first | with_reducible (first | refine op_ok el ?_) | walk_at "s")
  refine ⟨1, M.length - 1, rfl, by rw [show 1 + (M.length - 1) = M.length by omega], by omega, ?_⟩
  repeat (first | walk_at "s")
  refine l_lc (fun j acc t => ∃ vs : List Nat, acc = natsD vs ∧ vs.length = j ∧ (∀ v ∈ vs, v < M.length) ∧ TrOk (n + j) t) ?_
  repeat (first | walk_at "s")
  have h4 : (natsD (List.range (4 : Int).toNat)).length = 4 := rfl
  refine ⟨by omega, MD.fits (by rw [h4]; omega), ⟨[], rfl, rfl, by simp, h.mono (by omega)⟩, ?_, ?_⟩
  · rintro j d acc t hj ⟨vs, rfl, hl, hv, ht⟩
    have hjl := lt_at hj
    rw [h4] at hjl
    refine ex_env rfl ?_
    repeat (first | with_reducible (first | refine op_ok el ?_) | walk_at "s")
    refine drawT M.length rfl ht (by omega) pos0 (by omega) fun v t2 h2 hv2 => ?_
    refine ⟨vs ++ [v], natsD_snoc _ _, by rw [List.length_append, hl]; rfl, ?_, h2.mono (by omega)⟩
    intro x hx
    rcases List.mem_append.mp hx with hx | hx
    · exact hv x hx
    · rw [List.mem_singleton.mp hx]
      exact hv2
  rintro acc t ⟨vs, rfl, hl, hv, ht⟩
  rw [h4] at hl ht
  have ea := MD.addL_nats (as := (List.range (M.length - 1)).map (1 + ·)) (bs := vs) (by rw [List.length_map, List.length_range]; omega)
  repeat (first | with_reducible (first | refine op_ok ea ?_) | walk_at "s")
  refine MD.mixedN ht (by omega) (by rw [List.length_append, List.length_map, List.length_range]; omega) fun ys t3 h3 hp => ?_
  have hyl : ys.length = M.length + 3 := by
    rw [hp.length_eq, List.length_append, List.length_map, List.length_range]
    omega
  have eo : addD (.list [.int 0]) (.list (natsD ys)) = some (.list (natsD (0 :: ys))) := MD.addL_nats (as := [0]) (bs := ys) (by show 1 + _ ≤ _; omega)
  have hin : ∀ g, g < M.length → g ∈ 0 :: ys := fun g hg => by
    by_cases hg0 : g = 0
    · rw [hg0]; exact List.mem_cons_self
    · refine List.mem_cons_of_mem _ (hp.mem_iff.mpr (List.mem_append_left _ (List.mem_map.mpr ⟨g - 1, List.mem_range.mpr (by omega), ?_⟩)))
      show 1 + (g - 1) = g
      omega
  have hlt : ∀ o ∈ 0 :: ys, o < M.length := fun o ho => by
    rcases List.mem_cons.mp ho with rfl | ho
    · exact pos0
    · rcases List.mem_append.mp (hp.mem_iff.mp ho) with ho | ho
      · obtain ⟨x, hx, rfl⟩ := List.mem_map.mp ho
        have := List.mem_range.mp hx
        show 1 + x < _
        omega
      · exact hv o ho
  have hol : (0 :: ys).length = M.length + 4 := by rw [List.length_cons, hyl]
  have h00 : (0 :: ys).getD 0 0 = 0 := rfl
  repeat (first | with_reducible (first | refine op_ok eo ?_) | walk_at "s")
  generalize 0 :: ys = olds at hin hlt hol h00 ⊢
  refine s_for (fun j ρ t => ∃ (F : Mch) (y6 y7 y8 y9 y11 y12 : Option Val), F.length = j ∧ (∀ k, k < j → ∃ dst, F[k]? = some dst ∧ GoodRow (M.length + 4) (fun k => olds.getD k 0) (M.getD (olds.getD k 0) []) dst) ∧ TrOk (n + 104 + 5 * j) t ∧ ρ = eD (mcD many M) (.int (many : Int)) (.tuple (M.map rowD)) (some (.fro (.list (natsD olds)))) (some (.own (.list (F.map rowD)))) y6 y7 y8 y9 none y11 y12) ?_
  repeat (first | walk_at "s")
  refine ⟨⟨[], _, _, _, _, _, _, rfl, fun k hk => absurd hk (Nat.not_lt_zero _), h3.mono (by omega), rfl⟩, ?_, ?_⟩
  · rintro j d ρ t hj ⟨F, y6, y7, y8, y9, y11, y12, hF, hk, ht, rfl⟩
    obtain ⟨s, hs, rfl⟩ := natsD_at hj
    have hjl := lt_at hs
    refine ex_env rfl ?_
    refine MD.monoN (rowW (c := M.length + 4) ht (by omega) ok hm hol (by omega) hin (hlt s (List.mem_of_getElem? hs)) (by omega)) ?_
    rintro ρ t' ⟨h', dst, z7, z8, z9, z11, z12, hg, rfl⟩
    have es : olds.getD j 0 = s := by rw [List.getD_eq_getElem?_getD, hs]; rfl
    refine ⟨F ++ [dst], some (.fro (.int (s : Int))), z7, z8, z9, z11, z12, by rw [List.length_append, hF]; rfl, fun k hkk => ?_, h'.mono (by omega), rfl⟩
    by_cases hkj : k < j
    · obtain ⟨dst', g1, g2⟩ := hk k hkj
      exact ⟨dst', by rw [List.getElem?_append_left (by omega)]; exact g1, g2⟩
    · have : k = j := by omega
      subst this
      refine ⟨dst, by rw [List.getElem?_append_right (by omega), hF, Nat.sub_self]; rfl, ?_⟩
      rw [es]
      exact hg
  · rintro ρ t' ⟨F, y6, y7, y8, y9, y11, y12, hF, hk, ht, rfl⟩
    rw [CN.nats_len, hol] at hF hk ht
    have hidx : ∀ k, k < M.length + 4 → olds.getD k 0 < M.length := fun k hkc => by
      have e2 : olds[k]? = some (olds.getD k 0) := by rw [List.getD_eq_getElem?_getD (l := olds), List.getElem?_eq_getElem (by omega)]; rfl
      exact hlt _ (List.mem_of_getElem? e2)
    have okF := ok_of (hm := fun k => olds.getD k 0) ok (by omega) hF hidx hk
    repeat (first | walk_at "s")
    refine q F olds t' (ht.mono (by omega)) okF hF (MD.grown_beh (hm := fun k => olds.getD k 0) ok h00 (by omega) hidx hk) (by rw [hol, hF]) hlt fun k f => ?_
    refine CM.lots_through okF ok (fun g => olds.getD g 0) k (fun s o => ?_) f
    have r2 : olds.getD (runS F 0 s) 0 = runS M (olds.getD 0 0) s := (MD.grown_run (hm := fun k => olds.getD k 0) ok hidx hk s 0 o (by omega)).2
    rw [h00] at r2
    exact r2
end
end Mi.K10
/-! k10: are the lots right. -/
namespace Mi.K10
open PySem L2 TI CN
open TA (TrOk)
local macro_rules | `(tactic| walk_at "op") => `(tactic| with_reducible first
  | exact o_add | exact o_addI | exact o_sub | exact o_lt | exact o_le | exact o_gt | exact o_ge | exact o_eqI | exact o_neI | exact o_eqS | exact o_neS | exact o_neg | exact o_inv | exact o_and | exact o_or | exact o_xor
  | exact o_int | exact o_intB | exact o_abs | exact o_tupL | exact o_tupT | exact o_lenL | exact o_lenT | exact o_isN | exact o_isNotN)
local macro_rules | `(tactic| walk_at "ix") => `(tactic| ((with_reducible apply o_ixA); (first | apply o_ixL | apply o_ixT | apply o_dixS); focus rfl))
local macro_rules | `(tactic| walk_at "op2") => `(tactic| first
  | ((with_reducible apply o_inA); focus rfl)
  | ((with_reducible apply o_notInA); focus rfl)
  | (with_reducible (first | refine o_addL ?_ | refine o_addT ?_); simp only [List.length_cons, List.length_nil]; decide)
  | ((with_reducible apply o_modA); focus (exact mod_ok (by decide)))
  | ((with_reducible apply o_fdivA); focus (exact o_fdiv (by decide) (by decide))))
local macro_rules | `(tactic| walk_at "call") => `(tactic| fail)
local macro_rules | `(tactic| walk_at "s") => `(tactic| first
  | ((with_reducible apply s_set_env); focus (dsimp only [List.set] <;> rfl))
  | ((with_reducible apply f_callPK); (focus rfl); (focus rfl))
  | with_reducible first
    | refine s_seq ?_ | refine d_f (f_bin ?_) | refine d_f (f_c ?_) | refine s_set ?_ | refine v_rv ?_ | refine s_if ?_ | refine b_test ?_ | refine f_bin ?_ | refine f_c ?_ | refine s_ret ?_ | refine s_skip ?_
    | refine r_cons ?_ | refine r_nil ?_ | refine a_consT ?_ | refine a_nil ?_ | refine k_cons ?_ | refine k_nil ?_ | refine a_consF ?_
    | refine f_call ?_ | refine f_callP ?_ | refine f_keep ?_ | refine f_tup ?_ | refine f_if ?_ | refine f_andV ?_ | refine f_orV ?_ | refine f_notV ?_ | refine f_isi ?_ | refine f_sl ?_ | refine f_un ?_ | refine f_chain ?_
    | refine b_and ?_ | refine b_or ?_ | refine b_not ?_ | refine b_yes ?_
    | refine s_asg ?_ | refine s_app ?_ | refine s_par ?_ | refine s_pars ?_ | refine s_drop ?_ | refine s_retN ?_ | refine s_break ?_ | refine s_cont ?_ | refine s_end ?_ | refine s_setP ?_ | refine s_dropP ?_ | refine s_appP ?_ | refine p_at ?_ | refine p_end ?_ | refine s_par3 ?_ | refine ex_three ?_ | refine i_zip ?_ | refine zz_L ?_ | refine zz_T ?_ | refine l_revL ?_ | refine ex_lst ?_
    | refine l_lst ?_ | refine l_dict ?_ | refine l_listL ?_ | refine o_no ?_ | refine o_part ?_ | refine i_enum ?_ | refine i_range1 ?_ | refine v_new ?_ | refine vs_nil ?_ | refine vs_cons ?_
  | ((with_reducible apply d_v); focus rfl)
  | ((with_reducible apply f_v); focus rfl)
  | ((with_reducible apply s_aug); focus rfl)
  | ((with_reducible apply f_callT); focus rfl)
  | ((with_reducible apply w_b); (focus rfl))
  | ((with_reducible apply i_itemsB); (focus rfl); (focus rfl))
  | with_reducible first | refine d_f ?_ | refine w_f ?_ | refine i_items ?_
  | ((with_reducible refine if_yes ?_ ?_); focus rfl)
  | ((with_reducible refine if_no ?_ ?_); focus rfl)
  | ((with_reducible apply op_ok); focus (first | walk_at "op" | walk_at "ix" | walk_at "op2"))
  | ((with_reducible refine len_ok ?_ ?_); focus (simp only [List.length_cons, List.length_nil]; decide))
  | ((with_reducible refine pk_ok ?_ ?_); focus rfl)
  | ((with_reducible refine lt_ok ?_ ?_); focus (simp only [List.length_append, List.length_cons, List.length_nil]; decide))
  | ((with_reducible refine dict_ok ?_ ?_); focus (exact ⟨rfl, by decide, by decide⟩))
  | ((with_reducible refine par_ok ?_ ?_); focus (refine ⟨?_, rfl⟩; simp only [List.length_cons, List.length_nil]; decide))
  | walk_at "call"
  | with_reducible first | refine ex_bool ?_ | refine ex_int ?_ | refine ex_itL ?_ | refine ex_itT ?_ | refine ex_rng ?_ | refine ex_two ?_ | refine ex_lstL ?_ | refine ex_lstT ?_
  | ((with_reducible apply ex_env); focus rfl)
  | ((with_reducible apply ex_own); focus rfl))
local macro_rules | `(tactic| walk_at "call") => `(tactic| with_reducible first | refine i_zip2 ?_ | refine l_repL ?_ | refine zz2_L ?_ | refine zz2_T ?_ | refine zz2_X ?_ | refine f_mth ?_)
theorem zip_nn : ∀ (as bs : List Nat), zipL (natsD as) (natsD bs) = (as.zip bs).map fun z => PyData.tuple [.int (z.1 : Int), .int (z.2 : Int)]
  | [], _ => rfl
  | _ :: _, [] => rfl
  | a :: as, b :: bs => by
    show (PyData.tuple [.int (a : Int), .int (b : Int)]) :: zipL (natsD as) (natsD bs) = _
    rw [zip_nn as bs]
    rfl
section
variable {many : Nat} {M : Mch}
theorem lots_bn (ok : OkM many M) (hM : M.length ≤ 100) {k : Nat} (hmk : many * k ≤ 1000) : BnA (natsD (lotsC M k)) 200000 1 := by
  have h : ∀ x ∈ lotsC M k, x < 2 ^ 1001 := fun x hx => Nat.lt_of_le_of_lt (CM.lots_le ok hx) (Nat.pow_lt_pow_right (by decide) (by omega))
  have b := bn_natsB (k := 1) h (by decide)
  rw [lots_len ok.pos] at b
  exact b.mono (by omega) (by omega)
theorem lots_right {n : Int} {t : Tr} {k : Nat} (h : TrOk n t) (hn : n ≤ 600000000) (ok : OkM many M) (hM : M.length ≤ 20) (hm : many ≤ 2) (hk : k ≤ 500) (hmk : many * k ≤ 1000) :
    ∃ t', TrOk (n + 500) t' ∧ f__law_are_lots_right t [mcD many M, .int (k : Int)] = some (.bool true, t') := by
  suffices hs : ∃ z t2, f__law_are_lots_right t [mcD many M, .int (k : Int)] = some (z, t2) ∧ (z = .bool true ∧ TrOk (n + 500) t2) by
    obtain ⟨z, t2, e, rfl, h2⟩ := hs
    exact ⟨t2, h2, e⟩
  refine funT_ok ?_
  refine s_env (ρ' := [some (.tray 0), some (.bor (mcD many M)), some (.bor (.int (k : Int))), none, none, none, none, none, none, none, none, none, none]) rfl ?_
  unfold m__law_are_lots_right
  rw [q_lots]
  repeat (first | walk_at "s")
  refine renamed h (by omega) ok (by omega) (by omega) fun N ns t1 h1 okN hNl hNb hnl hnm hnlots => ?_
  repeat (first | walk_at "s")
  refine doubled h1 (by omega) ok hM hm fun D olds t2 h2 okD hDl hDb hol holt hdl => ?_
  have e1 := CN.lots ok (by omega) (k := k) (by omega)
  have e2 := CN.lots okN (by omega) (k := k) (by omega)
  have e3 := CN.lots okD (by omega) (k := k) (by omega)
  have bl := lots_bn ok (by omega) hmk
  have r1 := (bn_lst bl).repr (by decide) (by decide)
  have r2 := (bn_tup bl).repr (by decide) (by decide)
  have n1 := MD.neStr (PyData.list (natsD (lotsC M k))).shown
  have n2 := MD.eqStr (PyData.tuple (natsD (lotsC M k))).shown
  have lenM := lots_len ok.pos k
  have el : lenD [.tuple (natsD (lotsC M k))] = some (.int ((M.length : Nat) : Int)) := by
    show some (PyData.int (((natsD (lotsC M k)).length : Nat) : Int)) = _
    rw [CN.nats_len, lenM]
  have er : repLD (.list [.int 0]) (.int ((M.length : Nat) : Int)) = some (.list (natsD (List.replicate M.length 0))) := by
    rw [repLD_ok (by simp only [List.length_cons, List.length_nil]; omega) (by omega), rep_flat]
    exact congrArg (fun z => some (PyData.list z)) (nats_rep M.length 0)
  generalize hs1 : (PyData.list (natsD (lotsC M k))).shown = s1 at r1 n1
  generalize hs2 : (PyData.tuple (natsD (lotsC M k))).shown = s2 at r2 n2
  repeat (first | with_reducible (first | refine op_ok e1 ?_ | refine op_ok e2 ?_) | walk_at "s")
  refine MD.l_lc_to (fun m : Nat => PyData.int (m : Int)) (fun m => PyData.int (((lotsC N k).getD m 0 : Nat) : Int)) ns ?_
  repeat (first | walk_at "s")
  refine ⟨rfl, MD.fits (by rw [CN.nats_len]; omega), fun m hmm => ?_, ?_⟩
  · have hml := hnm m hmm
    have ex : (lotsC N k)[m]? = some ((lotsC N k).getD m 0) := by rw [List.getD_eq_getElem?_getD, List.getElem?_eq_getElem (by rw [lots_len okN.pos]; omega)]; rfl
    have ei := ix_nats ex
    refine ex_env rfl ?_
    repeat (first | with_reducible (first | refine op_ok ei ?_) | walk_at "s")
    exact ⟨rfl, rfl⟩
  have en : (ns.map fun m => PyData.int (((lotsC N k).getD m 0 : Nat) : Int)) = natsD (lotsC M k) := by
    rw [← hnlots k]
    unfold natsD
    rw [List.map_map]
    rfl
  rw [en]
  repeat (first | with_reducible (first | refine op_ok r1 ?_ | refine op_ok (list_of _) ?_ | refine op_ok n1 ?_ | refine op_ok el ?_ | refine op_ok er ?_) | walk_at "s")
  refine s_for (fun j ρ t' => t' = t2 ∧ ∃ (acc : List Nat) (y10 y11 : Option Val), ρ = [some (Val.tray 0), some (Val.bor (mcD many M)), some (Val.bor (PyData.int ↑k)), some (Val.fro (mcD many N)), some (Val.fro (PyData.list (natsD ns))), some (Val.fro (mcD many D)), some (Val.fro (PyData.list (natsD olds))), some (Val.fro (PyData.tuple (natsD (lotsC M k)))), some (Val.fro (PyData.tuple (natsD (lotsC N k)))), some (.own (.list (natsD acc))), y10, y11, none] ∧ acc.length = M.length ∧ ∀ f, dot f acc 0 + dot (fun g => f (olds.getD g 0)) ((lotsC D k).drop j) j = dot f (lotsC M k) 0) ?_
  repeat (first | with_reducible (first | refine op_ok e3 ?_) | walk_at "s")
  rw [zip_nn]
  have lenD := lots_len okD.pos k
  refine ⟨⟨rfl, _, _, _, rfl, List.length_replicate .., fun f => ?_⟩, ?_, ?_⟩
  · rw [dot_rep, Nat.zero_add]
    exact hdl k f
  · rintro j d ρ t' hj ⟨rfl, acc, y10, y11, rfl, hla, hf⟩
    rw [List.getElem?_map] at hj
    obtain ⟨⟨o, c⟩, hzj, rfl⟩ := Option.map_eq_some_iff.mp hj
    obtain ⟨ho, hc⟩ := List.getElem?_zip_eq_some.mp hzj
    have hom := holt o (List.mem_of_getElem? ho)
    have ego : olds.getD j 0 = o := by rw [List.getD_eq_getElem?_getD, ho]; rfl
    have ea : acc[o]? = some (acc.getD o 0) := by rw [List.getD_eq_getElem?_getD, List.getElem?_eq_getElem (by omega)]; rfl
    have ei := ixL_nats ea
    rw [drop_at hc] at hf
    refine ex_env rfl ?_
    refine s_env (ρ' := [some (Val.tray 0), some (Val.bor (mcD many M)), some (Val.bor (PyData.int ↑k)), some (Val.fro (mcD many N)), some (Val.fro (PyData.list (natsD ns))), some (Val.fro (mcD many D)), some (Val.fro (PyData.list (natsD olds))), some (Val.fro (PyData.tuple (natsD (lotsC M k)))), some (Val.fro (PyData.tuple (natsD (lotsC N k)))), some (.own (.list (natsD acc))), some (.fro (.int (o : Int))), some (.fro (.int (c : Int))), none]) rfl ?_
    refine s_putAt (f_bin (d_f (f_bin (d_v rfl (d_v rfl (op_ok ei (d_v rfl (op_ok (addN _ _) ?_))))))))
    repeat (first | walk_at "s")
    refine ⟨(o : Int), natsD acc, o, rfl, rfl, ixN_nat (by rw [CN.nats_len]; omega) (by rw [CN.nats_len]; omega), ?_⟩
    rw [nats_set]
    refine ⟨rfl, _, _, _, rfl, by rw [List.length_set]; exact hla, fun f => ?_⟩
    have hf := hf f
    have hf : dot f acc 0 + (c * f (olds.getD j 0) + dot (fun g => f (olds.getD g 0)) ((lotsC D k).drop (j + 1)) (j + 1)) = _ := hf
    rw [dot_set f c acc o 0 (by omega), Nat.zero_add, ← hf, ego, Nat.add_assoc]
  · rintro ρ t' ⟨rfl, acc, y10, y11, rfl, hla, hf⟩
    have hlz : ((olds.zip (lotsC D k)).map fun z => PyData.tuple [.int (z.1 : Int), .int (z.2 : Int)]).length = (lotsC D k).length := by
      rw [List.length_map, List.length_zip, lenD, hol, Nat.min_self]
    have ha : acc = lotsC M k := ext_dot _ _ (by rw [hla, lenM]) fun f => by
      have := hf f
      rw [hlz, List.drop_length] at this
      exact this
    subst ha
    repeat (first | with_reducible (first | refine op_ok r2 ?_ | refine op_ok n2 ?_) | walk_at "s")
    exact ⟨rfl, h2.mono (by omega)⟩
end
end Mi.K10
/-! k10: the law. -/
namespace Mi.K10
open PySem L2 TI CN
open TA (TrOk)
local macro_rules | `(tactic| walk_at "op") => `(tactic| with_reducible first
  | exact o_add | exact o_addI | exact o_sub | exact o_lt | exact o_le | exact o_gt | exact o_ge | exact o_eqI | exact o_neI | exact o_eqS | exact o_neS | exact o_neg | exact o_inv | exact o_and | exact o_or | exact o_xor
  | exact o_int | exact o_intB | exact o_abs | exact o_tupL | exact o_tupT | exact o_lenL | exact o_lenT | exact o_isN | exact o_isNotN)
local macro_rules | `(tactic| walk_at "ix") => `(tactic| ((with_reducible apply o_ixA); (first | apply o_ixL | apply o_ixT | apply o_dixS); focus rfl))
local macro_rules | `(tactic| walk_at "op2") => `(tactic| first
  | ((with_reducible apply o_inA); focus rfl)
  | ((with_reducible apply o_notInA); focus rfl)
  | (with_reducible (first | refine o_addL ?_ | refine o_addT ?_); simp only [List.length_cons, List.length_nil]; decide)
  | ((with_reducible apply o_modA); focus (exact mod_ok (by decide)))
  | ((with_reducible apply o_fdivA); focus (exact o_fdiv (by decide) (by decide))))
local macro_rules | `(tactic| walk_at "call") => `(tactic| fail)
local macro_rules | `(tactic| walk_at "s") => `(tactic| first
  | ((with_reducible apply s_set_env); focus (dsimp only [List.set] <;> rfl))
  | ((with_reducible apply f_callPK); (focus rfl); (focus rfl))
  | with_reducible first
    | refine s_seq ?_ | refine d_f (f_bin ?_) | refine d_f (f_c ?_) | refine s_set ?_ | refine v_rv ?_ | refine s_if ?_ | refine b_test ?_ | refine f_bin ?_ | refine f_c ?_ | refine s_ret ?_ | refine s_skip ?_
    | refine r_cons ?_ | refine r_nil ?_ | refine a_consT ?_ | refine a_nil ?_ | refine k_cons ?_ | refine k_nil ?_ | refine a_consF ?_
    | refine f_call ?_ | refine f_callP ?_ | refine f_keep ?_ | refine f_tup ?_ | refine f_if ?_ | refine f_andV ?_ | refine f_orV ?_ | refine f_notV ?_ | refine f_isi ?_ | refine f_sl ?_ | refine f_un ?_ | refine f_chain ?_
    | refine b_and ?_ | refine b_or ?_ | refine b_not ?_ | refine b_yes ?_
    | refine s_asg ?_ | refine s_app ?_ | refine s_par ?_ | refine s_pars ?_ | refine s_drop ?_ | refine s_retN ?_ | refine s_break ?_ | refine s_cont ?_ | refine s_end ?_ | refine s_setP ?_ | refine s_dropP ?_ | refine s_appP ?_ | refine p_at ?_ | refine p_end ?_ | refine s_par3 ?_ | refine ex_three ?_ | refine i_zip ?_ | refine zz_L ?_ | refine zz_T ?_ | refine l_revL ?_ | refine ex_lst ?_
    | refine l_lst ?_ | refine l_dict ?_ | refine l_listL ?_ | refine o_no ?_ | refine o_part ?_ | refine i_enum ?_ | refine i_range1 ?_ | refine v_new ?_ | refine vs_nil ?_ | refine vs_cons ?_
  | ((with_reducible apply d_v); focus rfl)
  | ((with_reducible apply f_v); focus rfl)
  | ((with_reducible apply s_aug); focus rfl)
  | ((with_reducible apply f_callT); focus rfl)
  | ((with_reducible apply w_b); (focus rfl))
  | ((with_reducible apply i_itemsB); (focus rfl); (focus rfl))
  | with_reducible first | refine d_f ?_ | refine w_f ?_ | refine i_items ?_
  | ((with_reducible refine if_yes ?_ ?_); focus rfl)
  | ((with_reducible refine if_no ?_ ?_); focus rfl)
  | ((with_reducible apply op_ok); focus (first | walk_at "op" | walk_at "ix" | walk_at "op2"))
  | ((with_reducible refine len_ok ?_ ?_); focus (simp only [List.length_cons, List.length_nil]; decide))
  | ((with_reducible refine pk_ok ?_ ?_); focus rfl)
  | ((with_reducible refine lt_ok ?_ ?_); focus (simp only [List.length_append, List.length_cons, List.length_nil]; decide))
  | ((with_reducible refine dict_ok ?_ ?_); focus (exact ⟨rfl, by decide, by decide⟩))
  | ((with_reducible refine par_ok ?_ ?_); focus (refine ⟨?_, rfl⟩; simp only [List.length_cons, List.length_nil]; decide))
  | walk_at "call"
  | with_reducible first | refine ex_bool ?_ | refine ex_int ?_ | refine ex_itL ?_ | refine ex_itT ?_ | refine ex_rng ?_ | refine ex_two ?_ | refine ex_lstL ?_ | refine ex_lstT ?_
  | ((with_reducible apply ex_env); focus rfl)
  | ((with_reducible apply ex_own); focus rfl))
theorem mc_is (many : Nat) (M : Mch) : machD many M = mcD many M := rfl
abbrev eL (x2 x3 x4 x5 x6 x7 x8 x9 x10 : Option Val) : Env := [none, some (.tray 0), x2, x3, x4, x5, x6, x7, x8, x9, x10]
def mTurn : MS Tr := (mSeq (mSet 3 (mRv (mCallT [true, true] TA.f__law_machine (mCons (mV 1) (mCons (mBin addD (mC (.int 1)) (mCallT [true] TA.f__law_draw (mCons (mV 1) (mCons (mC (.int 5)) mNil)))) (mCons (mCallT [true] TA.f__law_pick (mCons (mV 1) (mCons (mKeep (mLst (mCons (mC (.int 0)) (mCons (mC (.int 1)) (mCons (mC (.int 1)) (mCons (mC (.int 2)) mNil)))))) mNil))) mNil))))))
  (mSeq (mSet 4 (mRv (mIf (mTest (mBin ltD (mBin ixD (mV 3) (mC (.int 0))) (mC (.int 2)))) (mKeep (mLst (mCons (mC (.int 60)) (mCons (mC (.int 100)) mNil)))) (mKeep (mLst (mCons (mC (.int 20)) (mCons (mC (.int 40)) mNil)))))))
  (mSeq (mSet 5 (mRv (mIf (mTest (mBin ltD (mV 2) (mC (.int 3)))) (mCallT [true] TA.f__law_pick (mCons (mV 1) (mCons (mKeep (mLst (mCons (mC (.int 1)) (mCons (mC (.int 2)) (mCons (mC (.int 3)) (mCons (mC (.int 9)) (mCons (mC (.int 15)) mNil))))))) mNil))) (mCallT [true] TA.f__law_pick (mCons (mV 1) (mCons (mV 4) mNil))))))
  (mSeq (mPar 6 7 (mConsV (mRv (mCall reprE (mCons (mV 3) mNil))) (mConsV (mRv (mCallT [true] TA.f__law_draw (mCons (mV 1) (mCons (mV 5) mNil)))) mNilV)))
  (mSeq (mSet 8 (mRv (mCall reprE (mCons (mKeep (mLst (mCons (mCallP [true, true] f__law_written_none (mCons (mV 3) (mCons (mV 5) mNil))) (mCons (mCallP [true, true] f__law_ones (mCons (mV 3) (mCons (mV 7) mNil))) (mCons (mCallP [true, true] f__law_all_ones (mCons (mV 3) (mCons (mV 5) mNil))) mNil))))) mNil))))
  (mSeq (mSet 9 (mRv (mKeep (mLst (mCons (mV 3) (mCons (mBin ixD (mCallT [true] f__law_renamed (mCons (mV 1) (mCons (mV 3) mNil))) (mC (.int 0))) (mCons (mBin ixD (mCallT [true] f__law_doubled (mCons (mV 1) (mCons (mV 3) mNil))) (mC (.int 0))) (mCons (mCallP [true] MD.f__law_least (mCons (mV 3) mNil)) mNil))))))))
  (mSeq (mFor (mItems (mBin addD (mV 9) (mKeep (mLst (mCons (mCallP [true] MD.f_least (mCons (mV 3) mNil)) mNil))))) (gN 10) (mIfS (mTest (mBin neD (mCall reprE (mCons (mKeep (mLst (mCons (mCallP [true, true] CN.f_noughts (mCons (mV 10) (mCons (mV 5) mNil))) (mCons (mCallP [true, true] CN.f_ones_at (mCons (mV 10) (mCons (mV 7) mNil))) (mCons (mCallP [true, true] CN.f_ones_in_all (mCons (mV 10) (mCons (mV 5) mNil))) mNil))))) mNil)) (mV 8))) (mRet (mC (.bool false))) mSkip))
  (mIfS (mOr (mNot (mTest (mCallT [true, true] f__law_are_lots_right (mCons (mV 1) (mCons (mV 3) (mCons (mV 5) mNil)))))) (mTest (mBin neD (mCall reprE (mCons (mV 3) mNil)) (mV 6)))) (mRet (mC (.bool false))) mSkip))))))))
section
variable {N : Env → Tr → Prop} {R : PyData → Tr → Prop} {B C : Env → Tr → Prop}
theorem turn {n : Int} {j : Nat} {t : Tr} {x3 x4 x5 x6 x7 x8 x9 x10 : Option Val} (h : TrOk n t) (hn : n ≤ 400000000)
    (q : ∀ x3 x4 x5 x6 x7 x8 x9 x10 t', TrOk (n + 6000) t' → N (eL (some (.fro (.int j))) x3 x4 x5 x6 x7 x8 x9 x10) t') :
    Es mTurn (eL (some (.fro (.int j))) x3 x4 x5 x6 x7 x8 x9 x10) t N R B C := by
  unfold mTurn
  repeat (first | walk_at "s")
  refine drawT 5 rfl h (by omega) (by decide) (by decide) fun r t1 h1 hr => ?_
  refine op_ok (addN 1 r) ?_
  repeat (first | walk_at "s")
  refine pickT h1 (by omega) (by simp) (by simp) fun y t0 h0 hy => ?_
  obtain ⟨many, rfl, hm⟩ : ∃ many : Nat, y = .int (many : Int) ∧ many ≤ 2 := by
    simp only [List.mem_cons, List.not_mem_nil, or_false] at hy
    rcases hy with rfl | rfl | rfl | rfl
    · exact ⟨0, rfl, by decide⟩
    · exact ⟨1, rfl, by decide⟩
    · exact ⟨1, rfl, by decide⟩
    · exact ⟨2, rfl, by decide⟩
  repeat (first | walk_at "s")
  obtain ⟨M, t2, eM, hM, ok, h2⟩ := TA.machine (size := 1 + r) (many := many) h0 (by omega) (by omega) (by omega) (by omega)
  refine op_okT eM ?_
  rw [mc_is]
  have ei0 : ixD (mcD many M) (.int 0) = some (.int (many : Int)) := atI_nat (j := 0) rfl
  have hif : ∀ (ρ : Env), dat ρ 3 = some (mcD many M) → Ef (mIf (mTest (mBin ltD (mBin ixD (mV 3) (mC (.int 0))) (mC (.int 2)))) (mKeep (mLst (mCons (mC (.int 60)) (mCons (mC (.int 100)) mNil)))) (mKeep (mLst (mCons (mC (.int 20)) (mCons (mC (.int 40)) mNil))))) ρ t2
      (fun x t' => t' = t2 ∧ ∃ a b : Nat, x = .list [.int (a : Int), .int (b : Int)] ∧ 1 ≤ a ∧ a ≤ 100 ∧ 1 ≤ b ∧ b ≤ 100) := fun ρ g3 => by
    refine f_if (b_test (f_bin (d_f (f_bin (d_v g3 (d_f (f_c (op_ok ei0 (d_f (f_c ?_)))))))))) 
    repeat (first | walk_at "s")
    refine if_both (fun _ => ?_) (fun _ => ?_)
    · repeat (first | walk_at "s")
      exact ⟨rfl, 60, 100, rfl, by decide, by decide, by decide, by decide⟩
    · repeat (first | walk_at "s")
      exact ⟨rfl, 20, 40, rfl, by decide, by decide, by decide, by decide⟩
  refine s_seq (s_set (v_rv ((hif _ rfl).mono ?_)))
  rintro _ t' ⟨rfl, a, b, rfl, ha1, ha2, hb1, hb2⟩
  refine s_env (ρ' := eL (some (.fro (.int j))) (some (.fro (mcD many M))) (some (.fro (.list [.int (a : Int), .int (b : Int)]))) x5 x6 x7 x8 x9 x10) rfl ?_
  have hif2 : Ef (mIf (mTest (mBin ltD (mV 2) (mC (.int 3)))) (mCallT [true] TA.f__law_pick (mCons (mV 1) (mCons (mKeep (mLst (mCons (mC (.int 1)) (mCons (mC (.int 2)) (mCons (mC (.int 3)) (mCons (mC (.int 9)) (mCons (mC (.int 15)) mNil))))))) mNil))) (mCallT [true] TA.f__law_pick (mCons (mV 1) (mCons (mV 4) mNil)))) (eL (some (.fro (.int j))) (some (.fro (mcD many M))) (some (.fro (.list [.int (a : Int), .int (b : Int)]))) x5 x6 x7 x8 x9 x10) t'
      (fun x t3 => TrOk (n + 1 + 1 + 3300 + 1) t3 ∧ ∃ w : Nat, x = .int (w : Int) ∧ 1 ≤ w ∧ w ≤ 100) := by
    repeat (first | walk_at "s")
    refine if_both (fun _ => ?_) (fun _ => ?_)
    · repeat (first | walk_at "s")
      refine pickT h2 (by omega) (by simp) (by simp) fun y t0 h0 hy => ?_
      refine ⟨h0, ?_⟩
      simp only [List.mem_cons, List.not_mem_nil, or_false] at hy
      rcases hy with rfl | rfl | rfl | rfl | rfl
      · exact ⟨1, rfl, by decide, by decide⟩
      · exact ⟨2, rfl, by decide, by decide⟩
      · exact ⟨3, rfl, by decide, by decide⟩
      · exact ⟨9, rfl, by decide, by decide⟩
      · exact ⟨15, rfl, by decide, by decide⟩
    · repeat (first | walk_at "s")
      refine pickT h2 (by omega) (by simp) (by simp) fun y t0 h0 hy => ?_
      refine ⟨h0, ?_⟩
      simp only [List.mem_cons, List.not_mem_nil, or_false] at hy
      rcases hy with rfl | rfl
      · exact ⟨a, rfl, ha1, ha2⟩
      · exact ⟨b, rfl, hb1, hb2⟩
  refine s_seq (s_set (v_rv (hif2.mono ?_)))
  rintro _ t3 ⟨h3, w, rfl, hw1, hw2⟩
  refine s_env (ρ' := eL (some (.fro (.int j))) (some (.fro (mcD many M))) (some (.fro (.list [.int (a : Int), .int (b : Int)]))) (some (.fro (.int (w : Int)))) x6 x7 x8 x9 x10) rfl ?_
  have hmw : many * w ≤ 200 := Nat.mul_le_mul hm hw2
  have bm := mach_bn ok hm (by omega)
  rw [mc_is] at bm
  have em := bm.repr (by decide) (by decide)
  have n1 := MD.neStr (mcD many M).shown
  repeat (first | with_reducible (first | refine op_ok em ?_) | walk_at "s")
  refine drawT w rfl h3 (by omega) hw1 (by omega) fun i t4 h4 hi => ?_
  have hmi : many * (i + 1) ≤ 200 := Nat.le_trans (Nat.mul_le_mul_left many (by omega)) hmw
  have hmi0 : many * i ≤ 200 := Nat.le_trans (Nat.mul_le_mul_left many (by omega)) hmw
  have e1 := none_written ok (by omega) (k := w) (by omega) (by omega)
  have e2 := ones ok (by omega) (by omega) (k := i) (by omega) (by omega)
  have e3 := all_ones ok (by omega) (by omega) (k := w) (by omega) (by omega)
  have p200 : ∀ k : Nat, many * k ≤ 200 → 2 ^ (many * k) ≤ 2 ^ 200 := fun k hk => Nat.pow_le_pow_right (by decide) hk
  have b1 : (goC M (fun q => q == 0) w).sum < 2 ^ 201 := Nat.lt_of_le_of_lt (Nat.le_trans (CN.nought_le ok w) (p200 w hmw)) (Nat.pow_lt_pow_right (by decide) (by decide))
  have b2 : (CN.beh M (fun q => q == 1) (lotsC M i)).sum < 2 ^ 201 := Nat.lt_of_le_of_lt (Nat.le_trans (CN.onesAt_le ok i) (p200 (i + 1) hmi)) (Nat.pow_lt_pow_right (by decide) (by decide))
  have b3 : onesC M many w < 2 ^ 210 := by
    refine Nat.lt_of_le_of_lt (CN.onesC_le ok w) ?_
    have h1 : 2 ^ (many * w) * w ≤ 2 ^ 200 * 100 := Nat.mul_le_mul (p200 w hmw) hw2
    exact Nat.lt_of_le_of_lt h1 (by decide)
  have bd : Bn (.list [.int (((goC M (fun q => q == 0) w).sum : Nat) : Int), .int (((CN.beh M (fun q => q == 1) (lotsC M i)).sum : Nat) : Int), .int ((onesC M many w : Nat) : Int)]) 40000 10 := (bn_lst (bn_cons (bn_big (k := 5) b1 (by decide)) (bn_cons (bn_big b2 (by decide)) (bn_cons (bn_big b3 (by decide)) bn_nil)))).mono (by omega) (by omega)
  have ed := bd.repr (by decide) (by decide)
  have n2 := MD.neStr (PyData.list [.int (((goC M (fun q => q == 0) w).sum : Nat) : Int), .int (((CN.beh M (fun q => q == 1) (lotsC M i)).sum : Nat) : Int), .int ((onesC M many w : Nat) : Int)]).shown
  obtain ⟨L1, eL1, l1, d1⟩ := MD.least ok (by omega) (by omega)
  obtain ⟨L2, eL2, l2, d2⟩ := MD.law_least ok (by omega) (by omega)
  rw [mc_is, mc_is] at eL1 eL2
  have same : ∀ X : Mch, OkM many X → X.length ≤ 1000 → LM.beh many X M 0 0 →
      CN.f_noughts [mcD many X, .int (w : Int)] = some (.int (((goC M (fun q => q == 0) w).sum : Nat) : Int)) ∧ CN.f_ones_at [mcD many X, .int (i : Int)] = some (.int (((CN.beh M (fun q => q == 1) (lotsC M i)).sum : Nat) : Int)) ∧ CN.f_ones_in_all [mcD many X, .int (w : Int)] = some (.int ((onesC M many w : Nat) : Int)) := fun X okX hX hb => by
    refine ⟨?_, ?_, ?_⟩
    · rw [CN.noughts okX hX (by omega), CM.same_no okX ok hb]
    · rw [CN.ones_at okX hX (by omega), CM.same_at okX ok hb]
    · rw [CN.ones_in_all okX hX (by omega) (by omega), CM.same_all okX ok hb]
  generalize PyData.int (((goC M (fun q => q == 0) w).sum : Nat) : Int) = v1 at e1 ed n2 same
  generalize PyData.int (((CN.beh M (fun q => q == 1) (lotsC M i)).sum : Nat) : Int) = v2 at e2 ed n2 same
  generalize PyData.int ((onesC M many w : Nat) : Int) = v3 at e3 ed n2 same
  generalize (PyData.list [v1, v2, v3]).shown = s2 at ed n2
  generalize (mcD many M).shown = s1 at em n1
  repeat (first | with_reducible (first | refine op_ok e1 ?_ | refine op_ok e2 ?_ | refine op_ok e3 ?_ | refine op_ok ed ?_) | walk_at "s")
  refine renamed h4 (by omega) ok (by omega) (by omega) fun N0 ns t5 h5 okN hNl hNb _ _ _ => ?_
  repeat (first | with_reducible (first | refine op_ok (ix0 _ _) ?_) | walk_at "s")
  refine doubled h5 (by omega) ok (by omega) hm fun D olds t6 h6 okD hDl hDb _ _ _ => ?_
  repeat (first | with_reducible (first | refine op_ok (ix0 _ _) ?_ | refine op_ok eL2 ?_) | walk_at "s")
  have five : ∀ d ∈ [mcD many M, mcD many N0, mcD many D, mcD many L2, mcD many L1], ∃ X : Mch, d = mcD many X ∧ OkM many X ∧ X.length ≤ 1000 ∧ LM.beh many X M 0 0 := fun d hd => by
    simp only [List.mem_cons, List.not_mem_nil, or_false] at hd
    rcases hd with rfl | rfl | rfl | rfl | rfl
    · exact ⟨M, rfl, ok, by omega, LM.beh_refl 0⟩
    · exact ⟨N0, rfl, okN, by omega, hNb⟩
    · exact ⟨D, rfl, okD, by omega, hDb⟩
    · exact ⟨L2, rfl, l2.ok, by omega, l2.beh⟩
    · exact ⟨L1, rfl, l1.ok, by omega, l1.beh⟩
  have ea : addD (.list [mcD many M, mcD many N0, mcD many D, mcD many L2]) (.list [mcD many L1]) = some (.list [mcD many M, mcD many N0, mcD many D, mcD many L2, mcD many L1]) := o_ll (by simp only [List.length_cons, List.length_nil]; omega)
  generalize [mcD many M, mcD many N0, mcD many D, mcD many L2, mcD many L1] = ds at five ea
  generalize PyData.list [mcD many M, mcD many N0, mcD many D, mcD many L2] = l4 at ea ⊢
  refine s_for (fun _ ρ t' => t' = t6 ∧ ∃ y10, ρ = eL (some (.fro (.int j))) (some (.fro (mcD many M))) (some (.fro (.list [.int (a : Int), .int (b : Int)]))) (some (.fro (.int (w : Int)))) (some (.fro (.str s1))) (some (.fro (.int (i : Int)))) (some (.fro (.str s2))) (some (.fro l4)) y10) ?_
  repeat (first | with_reducible (first | refine op_ok ea ?_ | refine op_ok eL1 ?_) | walk_at "s")
  refine ⟨⟨rfl, _, rfl⟩, ?_, ?_⟩
  · rintro j' d ρ t' hj ⟨rfl, y10, rfl⟩
    obtain ⟨X, rfl, okX, hX, hb⟩ := five d (List.mem_of_getElem? hj)
    obtain ⟨g1, g2, g3⟩ := same X okX hX hb
    refine ex_env rfl ?_
    repeat (first | with_reducible (first | refine op_ok g1 ?_ | refine op_ok g2 ?_ | refine op_ok g3 ?_ | refine op_ok ed ?_ | refine op_ok n2 ?_) | walk_at "s")
    exact ⟨rfl, _, rfl⟩
  · rintro ρ t' ⟨rfl, y10, rfl⟩
    obtain ⟨t7, h7, e7⟩ := lots_right h6 (by omega) ok (by omega) hm (k := w) (by omega) (by omega)
    repeat (first | with_reducible (first | refine op_okT e7 ?_ | refine op_ok em ?_ | refine op_ok n1 ?_) | walk_at "s")
    exact q _ _ _ _ _ _ _ _ _ (h7.mono (by omega))
end
theorem law_ok {t : Tr} (h : TrOk 0 t) : ∃ t', m_law (entryL 11 1) t = some (.rt (.bool true), t') := by
  suffices hs : Es m_law (eL none none none none none none none none none) t No (fun d _ => d = .bool true) No No by
    obtain ⟨r, t', e, q⟩ := hs
    cases r with
    | rt d => cases (show d = _ from q); exact ⟨t', e⟩
    | nx ρ => exact q.elim
    | bk ρ => exact q.elim
    | ct ρ => exact q.elim
  show Es (mSeq (mFor (mRange1 (mCons (mC (.int 4)) mNil)) (gN 2) mTurn) (mRet (mC (.bool true)))) _ t No (fun d _ => d = .bool true) No No
  repeat (first | walk_at "s")
  refine s_for (fun j ρ t => ∃ x2 x3 x4 x5 x6 x7 x8 x9 x10, ρ = eL x2 x3 x4 x5 x6 x7 x8 x9 x10 ∧ TrOk (6000 * j) t) ?_
  repeat (first | walk_at "s")
  have h6 : (natsD (List.range (4 : Int).toNat)).length = 4 := rfl
  refine ⟨by omega, ⟨_, _, _, _, _, _, _, _, _, rfl, h.mono (by omega)⟩, ?_, ?_⟩
  · rintro j d ρ t hj ⟨x2, x3, x4, x5, x6, x7, x8, x9, x10, rfl, ht⟩
    have hjl := lt_at hj
    rw [h6] at hjl
    obtain ⟨k, hk, rfl⟩ := natsD_at hj
    refine ex_env rfl ?_
    exact turn ht (by omega) fun x3 x4 x5 x6 x7 x8 x9 x10 t' ht' => ⟨_, _, _, _, _, _, _, _, _, rfl, ht'.mono (by omega)⟩
  · rintro ρ t ⟨x2, x3, x4, x5, x6, x7, x8, x9, x10, rfl, ht⟩
    repeat (first | walk_at "s")
    rfl
theorem hlaw : ∀ ns : List Int, ns.length ≤ 63 → (∀ z ∈ ns, Builtin.Int.intBits z ≤ 1048576) → ∃ t0, f__law_tray ns = some (trD "great" t0) ∧ ∃ t', m_law (entryL 11 1) t0 = some (.rt (.bool true), t') := fun ns hl hb => by
  obtain ⟨t0, e, h⟩ := TA.tray ns hl hb
  exact ⟨t0, e, law_ok h⟩
end Mi.K10
open PySem PySem.W PyProof.Rows
set_option maxRecDepth 100000 in
set_option maxHeartbeats 0 in
theorem PySem.Challenge.cw_carryladder_k10_whole_counts_of_machines_holds : PySem.Challenge.rw_carryladder_k10_whole_counts_of_machines.Holds := by
  w_on; o_law; k_head; (case hw => w_witness2)
  k_fill
  refine Mi.walk_law (l := PySem.Challenge.rw_carryladder_k10_whole_counts_of_machines) (n := 63) (k := 5) (x := "script") rfl (by decide) rfl ⟨rfl, by decide, by decide⟩ (fun w h Y => PySem.W.kIn_of Y) ?F
  case F =>
    intro w mg fa h KX G hmg
    refine' Mi.K10.all_mk KX G hmg ?a0 ?l0 ?c0 ?k0 ?a1 ?l1 ?c1 ?k1 ?a2 ?l2 ?c2 ?k2 ?a3 ?l3 ?c3 ?k3 ?a4 ?l4 ?c4 ?k4 ?a5 ?l5 ?c5 ?k5 ?a6 ?l6 ?c6 ?k6 ?a7 ?l7 ?c7 ?k7 ?a8 ?l8 ?c8 ?k8 ?a9 ?l9 ?c9 ?k9 ?a10 ?l10 ?c10 ?k10 ?a11 ?l11 ?c11 ?k11 ?a12 ?l12 ?c12 ?k12 ?a13 ?l13 ?c13 ?k13 ?a14 ?l14 ?c14 ?k14 ?a15 ?l15 ?c15 ?k15 ?a16 ?l16 ?c16 ?k16 ?a17 ?l17 ?c17 ?k17 ?a18 ?l18 ?c18 ?k18 ?a19 ?l19 ?c19 ?k19 ?a20 ?l20 ?c20 ?k20 ?a21 ?l21 ?c21 ?k21 ?a22 ?l22 ?c22 ?k22 ?a23 ?l23 ?c23 ?k23 ?a24 ?l24 ?c24 ?k24 ?z_len ?z_zip ?z_range ?z_tuple ?z_sum ?z_abs ?z_int ?z_list ?z_set ?z_sorted ?z_enumerate ?z_repr ?y_MAX_STATES Mi.K10.hlaw
    (case a0 => k_is)
    (case l0 => k_is)
    (case c0 => k_is)
    (case k0 => k_is)
    (case a1 => k_is)
    (case l1 => k_is)
    (case c1 => k_is)
    (case k1 => k_is)
    (case a2 => k_is)
    (case l2 => k_is)
    (case c2 => k_is)
    (case k2 => k_is)
    (case a3 => k_is)
    (case l3 => k_is)
    (case c3 => k_is)
    (case k3 => k_is)
    (case a4 => k_is)
    (case l4 => k_is)
    (case c4 => k_is)
    (case k4 => k_is)
    (case a5 => k_is)
    (case l5 => k_is)
    (case c5 => k_is)
    (case k5 => k_is)
    (case a6 => k_is)
    (case l6 => k_is)
    (case c6 => k_is)
    (case k6 => k_is)
    (case a7 => k_is)
    (case l7 => k_is)
    (case c7 => k_is)
    (case k7 => k_is)
    (case a8 => k_is)
    (case l8 => k_is)
    (case c8 => k_is)
    (case k8 => k_is)
    (case a9 => k_is)
    (case l9 => k_is)
    (case c9 => k_is)
    (case k9 => k_is)
    (case a10 => k_is)
    (case l10 => k_is)
    (case c10 => k_is)
    (case k10 => k_is)
    (case a11 => k_is)
    (case l11 => k_is)
    (case c11 => k_is)
    (case k11 => k_is)
    (case a12 => k_is)
    (case l12 => k_is)
    (case c12 => k_is)
    (case k12 => k_is)
    (case a13 => k_is)
    (case l13 => k_is)
    (case c13 => k_is)
    (case k13 => k_is)
    (case a14 => k_is)
    (case l14 => k_is)
    (case c14 => k_is)
    (case k14 => k_is)
    (case a15 => k_is)
    (case l15 => k_is)
    (case c15 => k_is)
    (case k15 => k_is)
    (case a16 => k_is)
    (case l16 => k_is)
    (case c16 => k_is)
    (case k16 => k_is)
    (case a17 => k_is)
    (case l17 => k_is)
    (case c17 => k_is)
    (case k17 => k_is)
    (case a18 => k_is)
    (case l18 => k_is)
    (case c18 => k_is)
    (case k18 => k_is)
    (case a19 => k_is)
    (case l19 => k_is)
    (case c19 => k_is)
    (case k19 => k_is)
    (case a20 => k_is)
    (case l20 => k_is)
    (case c20 => k_is)
    (case k20 => k_is)
    (case a21 => k_is)
    (case l21 => k_is)
    (case c21 => k_is)
    (case k21 => k_is)
    (case a22 => k_is)
    (case l22 => k_is)
    (case c22 => k_is)
    (case k22 => k_is)
    (case a23 => k_is)
    (case l23 => k_is)
    (case c23 => k_is)
    (case k23 => k_is)
    (case a24 => k_is)
    (case l24 => k_is)
    (case c24 => k_is)
    (case k24 => k_is)
    (case z_len => k_is)
    (case z_zip => k_is)
    (case z_range => k_is)
    (case z_tuple => k_is)
    (case z_sum => k_is)
    (case z_abs => k_is)
    (case z_int => k_is)
    (case z_list => k_is)
    (case z_set => k_is)
    (case z_sorted => k_is)
    (case z_enumerate => k_is)
    (case z_repr => k_is)
    (case y_MAX_STATES => k_is)
