import PyProof.Rows.All
import Wide.All
import OpenK.AllK
import Wide.FinOn
import HandS.ForMost
import HandS.Flow
import HandS.Wide
import HandS.WideBits
import HandS.IsInst
import HandS.TupAny
import HandS.TupMul
import HandS.Dict
import HandS.More
import HandS.Comp
import HandS.Iter
import KE.GoesEnum
import KE.GoesMore
import HandS.Ends
import HandS.EndBits
import HandS.WideMore
import PyProof.Rows.Walk
import HandS.Zip
import HandS.Style
import HandS.Rev
import KE.KDictZip
import PyProof.StrOps2
import HandS.Conv
import HandS.RevRange
import PyProof.EqKinds
import PyProof.TwoTypesSub
import PyProof.AutoIntG7
import KE.GoesZip
import KE.KTupSum
import HandS.Deep
import KE.KDictPairs
import PySem.Challenge.RW_carryladder_k18_whole_neat_programs
import KE.BitLaws
import KE.KBits
import KE.OsArith
import HandS.Text
import PyProof.FitsInt
import PyProof.StrLawsRepr
set_option Elab.async false
set_option linter.all false
set_option maxRecDepth 100000
set_option maxHeartbeats 8000000
/-! Mirrors: what a piece of the program does, as a function of data alone; the tie to the hand layer's readings. -/
namespace Mi
open PySem L2

/-! ### data in a heap -/
def kD : Key → PyData
  | .inl i => .int i
  | .inr x => .str x
mutual
inductive Dq (K : PySem.W.Frag) (F : Hp) : V → PyData → Prop
  | non : Dq K F .non .none
  | bl (b : Bool) : Dq K F (.bl b) (.bool b)
  | int (i : Int) : Dq K F (.int i) (.int i)
  | str (x : Str) : Dq K F (.str x) (.str x)
  | lst {a : Addr} {xs : List V} {ds : List PyData} : F a = some (.lst xs) → DqA K F xs ds → Dq K F (.ref a) (.list ds)
  | tup {a : Addr} {xs : List V} {ds : List PyData} : SqT K F a xs → DqA K F xs ds → Dq K F (.ref a) (.tuple ds)
  | dct {a : Addr} {kvs : List (Key × V)} {es : List (PyData × PyData)} : F a = some (.dK kvs) → DqK K F kvs es → Dq K F (.ref a) (.dict es)
inductive DqA (K : PySem.W.Frag) (F : Hp) : List V → List PyData → Prop
  | nil : DqA K F [] []
  | cons {v : V} {vs : List V} {d : PyData} {ds : List PyData} : Dq K F v d → DqA K F vs ds → DqA K F (v :: vs) (d :: ds)
inductive DqK (K : PySem.W.Frag) (F : Hp) : List (Key × V) → List (PyData × PyData) → Prop
  | nil : DqK K F [] []
  | cons {k : Key} {v : V} {vs : List (Key × V)} {d : PyData} {ds : List (PyData × PyData)} : Dq K F v d → DqK K F vs ds → DqK K F ((k, v) :: vs) ((kD k, d) :: ds)
end
section
variable {K : PySem.W.Frag} {F F' : Hp}
theorem same_rd {a : Addr} {u : HO} (e : Same F F') (h : Rd F a u) : Rd F' a u := by
  rcases h with h | ⟨o, h⟩
  · exact .inl (e _ _ h)
  · exact .inr ⟨o, e _ _ h⟩
theorem same_t {a : Addr} {xs : List V} (e : Same F F') (h : SqT K F a xs) : SqT K F' a xs := by
  rcases h with h | h
  · exact .inl (same_rd e h)
  · exact .inr h
mutual
theorem Dq.mono (e : Same F F') : ∀ {v : V} {d : PyData}, Dq K F v d → Dq K F' v d
  | _, _, .non => .non
  | _, _, .bl b => .bl b
  | _, _, .int i => .int i
  | _, _, .str x => .str x
  | _, _, .lst h a => .lst (e _ _ h) (DqA.mono e a)
  | _, _, .tup h a => .tup (same_t e h) (DqA.mono e a)
  | _, _, .dct h a => .dct (e _ _ h) (DqK.mono e a)
theorem DqA.mono (e : Same F F') : ∀ {v : List V} {d : List PyData}, DqA K F v d → DqA K F' v d
  | _, _, .nil => .nil
  | _, _, .cons h t => .cons (Dq.mono e h) (DqA.mono e t)
theorem DqK.mono (e : Same F F') : ∀ {v : List (Key × V)} {d : List (PyData × PyData)}, DqK K F v d → DqK K F' v d
  | _, _, .nil => .nil
  | _, _, .cons h t => .cons (Dq.mono e h) (DqK.mono e t)
end
theorem DqA.length : ∀ {vs : List V} {ds : List PyData}, DqA K F vs ds → vs.length = ds.length
  | _, _, .nil => rfl
  | _, _, .cons _ t => by rw [List.length_cons, List.length_cons, DqA.length t]
theorem DqK.length : ∀ {vs : List (Key × V)} {ds : List (PyData × PyData)}, DqK K F vs ds → vs.length = ds.length
  | _, _, .nil => rfl
  | _, _, .cons _ t => by rw [List.length_cons, List.length_cons, DqK.length t]
theorem DqA.get : ∀ {vs : List V} {ds : List PyData} {i : Nat} {d : PyData}, DqA K F vs ds → ds[i]? = some d → ∃ v, vs[i]? = some v ∧ Dq K F v d
  | _, _, _, _, .nil, e => by simp at e
  | _, _, 0, _, .cons h _, e => by simp at e; subst e; exact ⟨_, rfl, h⟩
  | _, _, i + 1, d, .cons _ t, e => by
    obtain ⟨v, h1, h2⟩ := DqA.get (i := i) (d := d) t (by simpa using e)
    exact ⟨v, by simpa using h1, h2⟩
theorem DqA.append : ∀ {vs ws : List V} {ds es : List PyData}, DqA K F vs ds → DqA K F ws es → DqA K F (vs ++ ws) (ds ++ es)
  | _, _, _, _, .nil, s => s
  | _, _, _, _, .cons r t, s => .cons r (DqA.append t s)
theorem DqA.take : ∀ {vs : List V} {ds : List PyData} (n : Nat), DqA K F vs ds → DqA K F (vs.take n) (ds.take n)
  | _, _, 0, _ => .nil
  | _, _, _ + 1, .nil => .nil
  | _, _, n + 1, .cons r t => .cons r (DqA.take n t)
theorem DqA.drop : ∀ {vs : List V} {ds : List PyData} (n : Nat), DqA K F vs ds → DqA K F (vs.drop n) (ds.drop n)
  | _, _, 0, r => r
  | _, _, _ + 1, .nil => .nil
  | _, _, n + 1, .cons _ t => DqA.drop n t
theorem DqA.snoc {vs : List V} {ds : List PyData} {v : V} {d : PyData} (h : DqA K F vs ds) (g : Dq K F v d) : DqA K F (vs ++ [v]) (ds ++ [d]) := h.append (.cons g .nil)
theorem DqA.reverse : ∀ {vs : List V} {ds : List PyData}, DqA K F vs ds → DqA K F vs.reverse ds.reverse
  | _, _, .nil => .nil
  | _, _, .cons h t => by rw [List.reverse_cons, List.reverse_cons]; exact (DqA.reverse t).snoc h
theorem DqA.eraseIdx : ∀ {vs : List V} {ds : List PyData} (i : Nat), DqA K F vs ds → DqA K F (vs.eraseIdx i) (ds.eraseIdx i)
  | _, _, _, .nil => .nil
  | _, _, 0, .cons _ t => t
  | _, _, i + 1, .cons h t => .cons h (DqA.eraseIdx i t)
theorem DqA.set {v : V} {d : PyData} (g : Dq K F v d) : ∀ {vs : List V} {ds : List PyData} (i : Nat), DqA K F vs ds → DqA K F (vs.set i v) (ds.set i d)
  | _, _, _, .nil => .nil
  | _, _, 0, .cons _ t => .cons g t
  | _, _, i + 1, .cons h t => .cons h (DqA.set g i t)
theorem DqA.rep {vs : List V} {ds : List PyData} (h : DqA K F vs ds) : ∀ k : Nat, DqA K F (List.replicate k vs).flatten (List.replicate k ds).flatten
  | 0 => .nil
  | k + 1 => by
    rw [List.replicate_succ, List.replicate_succ, List.flatten_cons, List.flatten_cons]
    exact h.append (DqA.rep h k)
end

/-- a value that reads as data now: its own object may be any that stands in H, its items are kept in F -/
def Dv (K : PySem.W.Frag) (F H : Hp) (v : V) : PyData → Prop
  | .none => v = .non
  | .bool b => v = .bl b
  | .int i => v = .int i
  | .str x => v = .str x
  | .list ds => ∃ a vs, v = .ref a ∧ H a = some (.lst vs) ∧ DqA K F vs ds
  | .tuple ds => ∃ a vs, v = .ref a ∧ SqT K F a vs ∧ DqA K F vs ds
  | .dict es => ∃ a kvs, v = .ref a ∧ H a = some (.dK kvs) ∧ DqK K F kvs es
theorem Dq.dv {K : PySem.W.Frag} {F H : Hp} {v : V} {d : PyData} (h : Dq K F v d) (e : Same F H) : Dv K F H v d := by
  cases h with
  | non => rfl
  | bl b => rfl
  | int i => rfl
  | str x => rfl
  | lst h a => exact ⟨_, _, rfl, e _ _ h, a⟩
  | tup h a => exact ⟨_, _, rfl, h, a⟩
  | dct h a => exact ⟨_, _, rfl, e _ _ h, a⟩
/-- an object that this def alone may change -/
def Own (K : PySem.W.Frag) (F H : Hp) (a : Addr) : PyData → Prop
  | .list ds => F a = none ∧ ∃ vs, H a = some (.lst vs) ∧ DqA K F vs ds
  | .dict es => F a = none ∧ ∃ kvs, H a = some (.dK kvs) ∧ DqK K F kvs es
  | _ => False
theorem Own.dv {K : PySem.W.Frag} {F H : Hp} {a : Addr} {d : PyData} (h : Own K F H a d) : Dv K F H (.ref a) d := by
  cases d with
  | list ds => obtain ⟨_, vs, e, z⟩ := h; exact ⟨a, vs, rfl, e, z⟩
  | dict es => obtain ⟨_, vs, e, z⟩ := h; exact ⟨a, vs, rfl, e, z⟩
  | none => exact h.elim
  | bool => exact h.elim
  | int => exact h.elim
  | str => exact h.elim
  | tuple => exact h.elim
theorem Own.free {K : PySem.W.Frag} {F H : Hp} {a : Addr} {d : PyData} (h : Own K F H a d) : F a = none := by
  cases d <;> first | exact h.1 | exact h.elim
theorem Own.there {K : PySem.W.Frag} {F H : Hp} {a : Addr} {d : PyData} (h : Own K F H a d) : ∃ o, H a = some o := by
  cases d with
  | list ds => obtain ⟨_, vs, e, z⟩ := h; exact ⟨_, e⟩
  | dict es => obtain ⟨_, vs, e, z⟩ := h; exact ⟨_, e⟩
  | none => exact h.elim
  | bool => exact h.elim
  | int => exact h.elim
  | str => exact h.elim
  | tuple => exact h.elim
theorem Own.mono {K : PySem.W.Frag} {F H F' H' : Hp} {a : Addr} {d : PyData} (h : Own K F H a d) (e : Same F F') (k : ∀ o, H a = some o → H' a = some o) (f : F' a = none) : Own K F' H' a d := by
  cases d with
  | list ds => obtain ⟨_, vs, q, z⟩ := h; exact ⟨f, vs, k _ q, z.mono e⟩
  | dict es => obtain ⟨_, vs, q, z⟩ := h; exact ⟨f, vs, k _ q, z.mono e⟩
  | none => exact h.elim
  | bool => exact h.elim
  | int => exact h.elim
  | str => exact h.elim
  | tuple => exact h.elim
/-- given away, it is kept as it is -/
theorem Own.froze {K : PySem.W.Frag} {F H : Hp} {a : Addr} {d : PyData} (h : Own K F H a d) : ∃ o, H a = some o ∧ Dq K (upd F a o) (.ref a) d := by
  have hf := h.free
  have s : ∀ o, Same F (upd F a o) := fun o b u q => by rw [upd_ne (ne_of_none q hf)]; exact q
  cases d with
  | list ds => obtain ⟨_, vs, q, z⟩ := h; exact ⟨_, q, .lst upd_same (z.mono (s _))⟩
  | dict es => obtain ⟨_, vs, q, z⟩ := h; exact ⟨_, q, .dct upd_same (z.mono (s _))⟩
  | none => exact h.elim
  | bool => exact h.elim
  | int => exact h.elim
  | str => exact h.elim
  | tuple => exact h.elim

/-! ### slots, the state -/
/-- a slot's content: kept data; a list or dict of this def alone; one that is lent by the caller; the tray -/
inductive Val where
  | fro (d : PyData) | own (d : PyData) | bor (d : PyData) | tray (k : Nat)
abbrev Env := List (Option Val)
/-- an expression's result: kept data; what stands in a slot; the tray -/
inductive Rv where
  | fro (d : PyData) | loan (i : Nat) | tray (k : Nat)
/-- what is said of the state: T of the tray, S its addresses -/
structure Gm where
  K : PySem.W.Frag
  S : List Addr
  T : Type
  In : T → Hp → Prop
  loc : ∀ t H H', (∀ a ∈ S, H' a = H a) → In t H → In t H'
  has : ∀ t H a, a ∈ S → In t H → ∃ o, H a = some o
  F0 : Hp
  H0 : Hp
  ta : Nat → V
structure Fin (Γ : Gm) (F H : Hp) (t : Γ.T) : Prop where
  ex : Same F H
  inn : Γ.In t H
  sF : ∀ a ∈ Γ.S, F a = none
  step0 : Same Γ.F0 F
  step : ∀ a o, a ∉ Γ.S → Γ.F0 a = none → Γ.H0 a = some o → F a = none ∧ H a = some o
def SlotOk (Γ : Gm) (F H : Hp) (σ : L2.St) (i : Nat) : Val → Prop
  | .fro d => ∃ v, σ[i]? = some (some v) ∧ Dq Γ.K F v d
  | .own d => ∃ a, σ[i]? = some (some (.ref a)) ∧ Own Γ.K F H a d ∧ Γ.H0 a = none ∧ a ∉ Γ.S
  | .bor d => ∃ v, σ[i]? = some (some v) ∧ (Dq Γ.K F v d ∨ ∃ a o, v = .ref a ∧ Own Γ.K F H a d ∧ a ∉ Γ.S ∧ Γ.F0 a = none ∧ Γ.H0 a = some o)
  | .tray k => σ[i]? = some (some (Γ.ta k))
structure Rep (Γ : Gm) (F H : Hp) (σ : L2.St) (ρ : Env) (t : Γ.T) : Prop extends Fin Γ F H t where
  len : ρ.length = σ.length
  slots : ∀ (i : Nat) (w : Val), ρ[i]? = some (some w) → SlotOk Γ F H σ i w
  sep : ∀ (i j : Nat) (a : Addr) (d e : PyData), i ≠ j → ρ[i]? = some (some (.own d)) → ρ[j]? = some (some (.own e)) → σ[i]? = some (some (.ref a)) → σ[j]? ≠ some (some (.ref a))
/-- what may happen meanwhile: nothing that stood changes but the tray, nothing that was not kept becomes kept -/
structure Ext (S : List Addr) (F H F' H' : Hp) : Prop where
  f : Same F F'
  e : Same F' H'
  h : ∀ a o, a ∉ S → H a = some o → H' a = some o
  n : ∀ a o, F a = none → H a = some o → F' a = none
section
variable {Γ : Gm} {F H F' H' : Hp} {σ : L2.St} {ρ : Env} {t t' : Γ.T} {S : List Addr}
theorem Ext.refl (h : Same F H) : Ext S F H F H := ⟨Same.refl F, h, fun _ _ _ q => q, fun _ _ q _ => q⟩
theorem Ext.trans {F1 H1 F2 H2 : Hp} (a : Ext S F H F1 H1) (b : Ext S F1 H1 F2 H2) (hs : ∀ a ∈ S, F a = none → F2 a = none) : Ext S F H F2 H2 := by
  refine ⟨a.f.trans b.f, b.e, fun x o hx q => b.h x o hx (a.h x o hx q), fun x o q z => ?_⟩
  by_cases hx : x ∈ S
  · exact hs x hx q
  · exact b.n x o (a.n x o q z) (a.h x o hx z)
/-- a new object, kept -/
theorem Ext.keep {p : Addr} {o : HO} (s : Same F H) (hp : H p = none) : Ext S F H (upd F p o) (upd H p o) := by
  have fp : F p = none := s.free hp
  refine ⟨fun b u q => by rw [upd_ne (ne_of_none q fp)]; exact q, fun b u q => ?_, fun b u _ q => by rw [upd_ne (ne_of_none q hp)]; exact q, fun b u q z => by rw [upd_ne (ne_of_none z hp)]; exact q⟩
  by_cases hb : b = p
  · subst hb; rw [upd_same] at q ⊢; exact q
  · rw [upd_ne hb] at q ⊢; exact s b u q
/-- a new object, not kept -/
theorem Ext.new {p : Addr} {o : HO} (s : Same F H) (hp : H p = none) : Ext S F H F (upd H p o) := by
  have fp : F p = none := s.free hp
  exact ⟨Same.refl F, fun b u q => by rw [upd_ne (ne_of_none q fp)]; exact s b u q, fun b u _ q => by rw [upd_ne (ne_of_none q hp)]; exact q, fun b u q z => q⟩
theorem Ext.wide (x : Ext [] F H F' H') : Ext S F H F' H' := ⟨x.f, x.e, fun a o _ q => x.h a o (by simp) q, x.n⟩
theorem Fin.ext (R : Fin Γ F H t) (x : Ext Γ.S F H F' H') (inn : Γ.In t' H') (sF : ∀ a ∈ Γ.S, F' a = none) : Fin Γ F' H' t' := by
  refine ⟨x.e, inn, sF, R.step0.trans x.f, fun a o n1 n2 n3 => ?_⟩
  obtain ⟨q1, q2⟩ := R.step a o n1 n2 n3
  exact ⟨x.n a o q1 q2, x.h a o n1 q2⟩
theorem Fin.old (R : Fin Γ F H t) {a : Addr} (h : H a = none) : Γ.H0 a = none ∧ a ∉ Γ.S := by
  have n2 : a ∉ Γ.S := fun z => by
    obtain ⟨o, q⟩ := Γ.has t H a z R.inn
    rw [h] at q; cases q
  refine ⟨?_, n2⟩
  cases q : Γ.H0 a with
  | none => rfl
  | some o =>
    cases q0 : Γ.F0 a with
    | none =>
      have := (R.step a o n2 q0 q).2
      rw [h] at this; cases this
    | some u =>
      have := R.ex a u (R.step0 a u q0)
      rw [h] at this; cases this
theorem SlotOk.ext {i : Nat} {w : Val} (R : Fin Γ F H t) (x : Ext Γ.S F H F' H') (s : SlotOk Γ F H σ i w) : SlotOk Γ F' H' σ i w := by
  cases w with
  | fro d => obtain ⟨v, e, q⟩ := s; exact ⟨v, e, q.mono x.f⟩
  | own d =>
    obtain ⟨a, e, q, q2, q3⟩ := s
    obtain ⟨o, ho⟩ := q.there
    exact ⟨a, e, q.mono x.f (fun u hu => x.h a u q3 hu) (x.n a o q.free ho), q2, q3⟩
  | bor d =>
    obtain ⟨v, e, q⟩ := s
    refine ⟨v, e, ?_⟩
    rcases q with q | ⟨a, o, e2, q, q3, q4, q5⟩
    · exact .inl (q.mono x.f)
    · obtain ⟨o', ho⟩ := q.there
      exact .inr ⟨a, o, e2, q.mono x.f (fun u hu => x.h a u q3 hu) (x.n a o' q.free ho), q3, q4, q5⟩
  | tray _ => exact s
theorem Rep.ext (R : Rep Γ F H σ ρ t) (x : Ext Γ.S F H F' H') (inn : Γ.In t' H') (sF : ∀ a ∈ Γ.S, F' a = none) : Rep Γ F' H' σ ρ t' :=
  { R.toFin.ext x inn sF with len := R.len, slots := fun i w e => (R.slots i w e).ext R.toFin x, sep := R.sep }
/-- .. the tray as it was -/
theorem Rep.ext0 (R : Rep Γ F H σ ρ t) (x : Ext [] F H F' H') : Rep Γ F' H' σ ρ t := by
  refine R.ext x.wide (Γ.loc t H H' (fun a ha => ?_) R.inn) fun a ha => ?_
  · obtain ⟨o, q⟩ := Γ.has t H a ha R.inn
    rw [q]; exact x.h a o (by simp) q
  · obtain ⟨o, q⟩ := Γ.has t H a ha R.inn
    exact x.n a o (R.sF a ha) q
theorem Fin.ext0 (R : Fin Γ F H t) (x : Ext [] F H F' H') : Fin Γ F' H' t := by
  refine R.ext x.wide (Γ.loc t H H' (fun a ha => ?_) R.inn) fun a ha => ?_
  · obtain ⟨o, q⟩ := Γ.has t H a ha R.inn
    rw [q]; exact x.h a o (by simp) q
  · obtain ⟨o, q⟩ := Γ.has t H a ha R.inn
    exact x.n a o (R.sF a ha) q
end

/-! ### results -/
def RvOk (Γ : Gm) (F : Hp) (σ : L2.St) (v : V) : Rv → Prop
  | .fro d => Dq Γ.K F v d
  | .loan i => σ[i]? = some (some v)
  | .tray k => v = Γ.ta k
def rd (ρ : Env) : Rv → Option PyData
  | .fro d => some d
  | .loan i => match ρ[i]? with
    | some (some (.own d)) => some d
    | some (some (.bor d)) => some d
    | some (some (.fro d)) => some d
    | _ => none
  | .tray _ => none
theorem RvOk.mono {Γ : Gm} {F F' : Hp} {σ : L2.St} {v : V} {r : Rv} (e : Same F F') (h : RvOk Γ F σ v r) : RvOk Γ F' σ v r := by
  cases r with
  | fro d => exact Dq.mono e h
  | loan i => exact h
  | tray _ => exact h
theorem Rep.read {Γ : Gm} {F H : Hp} {σ : L2.St} {ρ : Env} {t : Γ.T} {v : V} {r : Rv} {d : PyData} (R : Rep Γ F H σ ρ t) (h : RvOk Γ F σ v r) (e : rd ρ r = some d) : Dv Γ.K F H v d := by
  cases r with
  | fro d' => cases e; exact Dq.dv h R.ex
  | tray _ => cases e
  | loan i =>
    have h : σ[i]? = some (some v) := h
    unfold rd at e
    simp only at e
    split at e
    · rename_i d' q
      cases e
      obtain ⟨a, e2, o, _⟩ := R.slots i _ q
      rw [h] at e2; cases e2
      exact o.dv
    · rename_i d' q
      cases e
      obtain ⟨w, e2, o⟩ := R.slots i _ q
      rw [h] at e2; cases e2
      rcases o with o | ⟨a, _, rfl, o, _⟩
      · exact o.dv R.ex
      · exact o.dv
    · rename_i d' q
      cases e
      obtain ⟨w, e2, o⟩ := R.slots i _ q
      rw [h] at e2; cases e2
      exact o.dv R.ex
    · cases e
end Mi
/-! Mirrors of expressions. -/
namespace Mi
open PySem L2

/-! ### more of the state -/
section
variable {Γ : Gm} {F H F' H' : Hp} {σ : L2.St} {ρ : Env} {t t' : Γ.T}
/-- a new object of this def's own -/
structure Fresh (Γ : Gm) (H F' H' : Hp) (σ : L2.St) (ρ : Env) (a : Addr) (d : PyData) : Prop where
  own : Own Γ.K F' H' a d
  new : H a = none
  old : Γ.H0 a = none
  nS : a ∉ Γ.S
  nsl : ∀ (i : Nat) (e : PyData), ρ[i]? = some (some (.own e)) → σ[i]? ≠ some (some (.ref a))
theorem Rep.froze {a : Addr} {o : HO} (R : Rep Γ F H σ ρ t) (hF : F a = none) (hH : H a = some o) (nS : a ∉ Γ.S) (old : Γ.H0 a = none)
    (nsl : ∀ (i : Nat) (e : PyData), ρ[i]? = some (some (.own e)) → σ[i]? ≠ some (some (.ref a))) : Rep Γ (upd F a o) H σ ρ t := by
  have sm : Same F (upd F a o) := fun b u q => by rw [upd_ne (ne_of_none q hF)]; exact q
  refine { ex := fun b u q => ?_, inn := R.inn, sF := fun b hb => ?_, step0 := R.step0.trans sm, step := fun b u n1 n2 n3 => ?_, len := R.len, slots := fun i w e => ?_, sep := R.sep }
  · by_cases hb : b = a
    · subst hb; rw [upd_same] at q; rw [hH]; exact q
    · rw [upd_ne hb] at q; exact R.ex b u q
  · rw [upd_ne (fun z : b = a => nS (z ▸ hb))]; exact R.sF b hb
  · have hba : b ≠ a := fun z => by subst z; rw [old] at n3; cases n3
    rw [upd_ne hba]; exact R.step b u n1 n2 n3
  · have s := R.slots i w e
    cases w with
    | fro d => obtain ⟨v, e1, q⟩ := s; exact ⟨v, e1, q.mono sm⟩
    | own d =>
      obtain ⟨b, e1, q, q2, q3⟩ := s
      have hba : b ≠ a := fun z => nsl i d e (z ▸ e1)
      exact ⟨b, e1, q.mono sm (fun _ q => q) (by rw [upd_ne hba]; exact q.free), q2, q3⟩
    | bor d =>
      obtain ⟨v, e1, q⟩ := s
      refine ⟨v, e1, ?_⟩
      rcases q with q | ⟨b, u, e2, q, q3, q4, q5⟩
      · exact .inl (q.mono sm)
      · have hba : b ≠ a := fun z => by subst z; rw [old] at q5; cases q5
        exact .inr ⟨b, u, e2, q.mono sm (fun _ q => q) (by rw [upd_ne hba]; exact q.free), q3, q4, q5⟩
    | tray _ => exact s
/-- a new object is a fresh one -/
theorem Rep.fresh {a : Addr} {d : PyData} (R : Rep Γ F H σ ρ t) (o : Own Γ.K F H' a d) (hH : H a = none) : Fresh Γ H F H' σ ρ a d := by
  obtain ⟨old, nS⟩ := R.toFin.old hH
  refine ⟨o, hH, old, nS, fun i e q z => ?_⟩
  obtain ⟨b, e1, q1, _⟩ := R.slots i _ q
  rw [e1] at z; cases z
  obtain ⟨u, hu⟩ := q1.there
  rw [hH] at hu; cases hu
end

/-! ### expressions -/
abbrev ME (T : Type) := Env → T → Option (Rv × T)
/-- an expression that does what f says -/
def den (Γ : Gm) (f : ME Γ.T) : TE := fun σ H Q => ∃ F ρ t r t', Rep Γ F H σ ρ t ∧ f ρ t = some (r, t') ∧
  ∀ v F' H', Rep Γ F' H' σ ρ t' → Ext Γ.S F H F' H' → RvOk Γ F' σ v r → Q v H'
/-- .. whose value is a new list or dict -/
def denL (Γ : Gm) (f : Env → Γ.T → Option (PyData × Γ.T)) : TE := fun σ H Q => ∃ F ρ t d t', Rep Γ F H σ ρ t ∧ f ρ t = some (d, t') ∧
  ∀ a F' H', Rep Γ F' H' σ ρ t' → Ext Γ.S F H F' H' → Fresh Γ H F' H' σ ρ a d → Q (.ref a) H'
def denT (Γ : Gm) (f : Env → Γ.T → Option (Bool × Γ.T)) : TT := fun σ H Q => ∃ F ρ t b t', Rep Γ F H σ ρ t ∧ f ρ t = some (b, t') ∧
  ∀ F' H', Rep Γ F' H' σ ρ t' → Ext Γ.S F H F' H' → Q b H'
inductive RvsOk (Γ : Gm) (F : Hp) (σ : L2.St) : List V → List Rv → Prop
  | nil : RvsOk Γ F σ [] []
  | cons {v : V} {vs : List V} {r : Rv} {rs : List Rv} : RvOk Γ F σ v r → RvsOk Γ F σ vs rs → RvsOk Γ F σ (v :: vs) (r :: rs)
def denA (Γ : Gm) (f : Env → Γ.T → Option (List Rv × Γ.T)) : TA := fun σ H Q => ∃ F ρ t rs t', Rep Γ F H σ ρ t ∧ f ρ t = some (rs, t') ∧
  ∀ vs F' H', Rep Γ F' H' σ ρ t' → Ext Γ.S F H F' H' → RvsOk Γ F' σ vs rs → Q vs H'
theorem RvsOk.mono {Γ : Gm} {F F' : Hp} {σ : L2.St} (e : Same F F') : ∀ {vs : List V} {rs : List Rv}, RvsOk Γ F σ vs rs → RvsOk Γ F' σ vs rs
  | _, _, .nil => .nil
  | _, _, .cons h t => .cons (h.mono e) (RvsOk.mono e t)
theorem pe_w {X : Cx} {e : Expr} {t t' : TE} (h : PE X e t) (w : ∀ σ H Q, t' σ H Q → t σ H Q) : PE X e t' := ⟨fun pins s σ H Q I q => h.run pins s σ H Q I (w σ H Q q)⟩
theorem pt_w {X : Cx} {e : Expr} {t t' : TT} (h : PT X e t) (w : ∀ σ H Q, t' σ H Q → t σ H Q) : PT X e t' := ⟨fun pins s σ H Q I q => h.run pins s σ H Q I (w σ H Q q)⟩
theorem pw_w {X : Cx} {e : Expr} {t t' : TT} (h : PW X e t) (w : ∀ σ H Q, t' σ H Q → t σ H Q) : PW X e t' := ⟨fun wh pins s σ H Q I q => h.run wh pins s σ H Q I (w σ H Q q)⟩
theorem pa_w {X : Cx} {e : List Expr} {t t' : TA} (h : PA X e t) (w : ∀ σ H Q, t' σ H Q → t σ H Q) : PA X e t' := ⟨fun pos pins s σ H Q I q => h.run pos pins s σ H Q I (w σ H Q q)⟩
theorem pk_w {X : Cx} {e : List Keyword} {t t' : TA} (h : PK X e t) (w : ∀ σ H Q, t' σ H Q → t σ H Q) : PK X e t' := ⟨fun pos pins s σ H Q I q => h.run pos pins s σ H Q I (w σ H Q q)⟩
theorem Ext.then {Γ : Gm} {F H F1 H1 F2 H2 : Hp} {σ : L2.St} {ρ : Env} {t : Γ.T} (a : Ext Γ.S F H F1 H1) (b : Ext Γ.S F1 H1 F2 H2) (R : Rep Γ F2 H2 σ ρ t) : Ext Γ.S F H F2 H2 :=
  a.trans b fun x hx _ => R.sF x hx

section
variable {Γ : Gm} {X : Cx}
/-- from a reading by values: it answers v at once -/
theorem den_to {F H : Hp} {σ : L2.St} {Q : VK} {f : ME Γ.T} {ρ : Env} {t t' : Γ.T} {r : Rv} (R : Rep Γ F H σ ρ t) (e : f ρ t = some (r, t'))
    (q : ∀ v F' H', Rep Γ F' H' σ ρ t' → Ext Γ.S F H F' H' → RvOk Γ F' σ v r → Q v H') : den Γ f σ H Q := ⟨F, ρ, t, r, t', R, e, q⟩

/-- a new list or dict, kept from now on -/
def mKeep {T : Type} (f : Env → T → Option (PyData × T)) : ME T := fun ρ t => match f ρ t with
  | some (d, t') => some (.fro d, t')
  | none => none
theorem pe_keep {e : Expr} {f : Env → Γ.T → Option (PyData × Γ.T)} (h : PE X e (denL Γ f)) : PE X e (den Γ (mKeep f)) := pe_w h fun σ H Q => by
  rintro ⟨F, ρ, t, r, t', R, e, q⟩
  unfold mKeep at e
  split at e
  · rename_i d t1 e1
    cases e
    refine ⟨F, ρ, t, d, t', R, e1, fun a F' H' R' x fr => ?_⟩
    obtain ⟨o, ho, dq⟩ := fr.own.froze
    have R2 := R'.froze fr.own.free ho fr.nS fr.old fr.nsl
    refine q _ _ _ R2 ⟨fun b u z => ?_, R2.ex, x.h, fun b u z1 z2 => ?_⟩ dq
    · rw [upd_ne (ne_of_none (x.f b u z) fr.own.free)]; exact x.f b u z
    · rw [upd_ne (ne_of_none z2 fr.new)]; exact x.n b u z1 z2
  · cases e

/-- a written value -/
def mC {T : Type} (d : PyData) : ME T := fun _ t => some (.fro d, t)
theorem pe_c {e : Expr} {v : V} {d : PyData} (h : PE X e (tC v)) (hd : ∀ F, Dq Γ.K F v d) : PE X e (den Γ (mC d)) := pe_w h fun σ H Q => by
  rintro ⟨F, ρ, t, r, t', R, e, q⟩
  cases e
  exact q v F H R (Ext.refl R.ex) (hd F)
theorem pe_cI {i : Int} {j : Nat} {pos : Pos} : PE X (.Constant (.int i) j pos) (den Γ (mC (.int i))) := pe_c L2.pe_int fun _ => .int i
theorem pe_cB {b : Bool} {j : Nat} {pos : Pos} : PE X (.Constant (.bool b) j pos) (den Γ (mC (.bool b))) := pe_c L2.pe_bl fun _ => .bl b
theorem pe_cN {j : Nat} {pos : Pos} : PE X (.Constant .none j pos) (den Γ (mC .none)) := pe_c L2.pe_non fun _ => .non
theorem pe_cS {x : Str} {j : Nat} {pos : Pos} : PE X (.Constant (.str x) j pos) (den Γ (mC (.str x))) := pe_c L2.pe_str fun _ => .str x
/-- a module's constant -/
theorem pe_cG {x : Str} {v : V} {u : Value} {d : PyData} {pos : Pos} (hg : Gl X x) (hm : X.mg x = some u) (r : RelV v u) (hd : ∀ F, Dq Γ.K F v d) (h2 : (x == ("__debug__" : Str)) = false := by decide) : PE X (.Name x pos) (den Γ (mC d)) := pe_c (pe_glob hg hm r h2) hd

/-- a name -/
def flat : PyData → Bool
  | .list _ => false
  | .dict _ => false
  | _ => true
def mV {T : Type} (i : Nat) : ME T := fun ρ t => match ρ[i]? with
  | some (some (.fro d)) => some (.fro d, t)
  | some (some (.own d)) => some (.loan i, t)
  | some (some (.bor d)) => some (if flat d then .fro d else .loan i, t)
  | some (some (.tray k)) => some (.tray k, t)
  | _ => none
theorem pe_v {i : Nat} {e : Expr} (h : PE X e (tVar i)) : PE X e (den Γ (mV i)) := pe_w h fun σ H Q => by
  rintro ⟨F, ρ, t, r, t', R, e, q⟩
  unfold mV at e
  split at e
  · rename_i d q1
    cases e
    obtain ⟨v, e1, dq⟩ := R.slots i _ q1
    exact ⟨v, e1, q v F H R (Ext.refl R.ex) dq⟩
  · rename_i d q1
    cases e
    obtain ⟨a, e1, _⟩ := R.slots i _ q1
    exact ⟨_, e1, q _ F H R (Ext.refl R.ex) e1⟩
  · rename_i d q1
    cases e
    obtain ⟨v, e1, o⟩ := R.slots i _ q1
    refine ⟨v, e1, q v F H R (Ext.refl R.ex) ?_⟩
    by_cases hf : flat d = true
    · rw [if_pos hf]
      rcases o with o | ⟨a, u, _, o, _⟩
      · exact o
      · cases d <;> first | exact o.elim | cases hf
    · rw [if_neg hf]
      exact e1
  · rename_i q1
    cases e
    have e1 : σ[i]? = some (some (Γ.ta _)) := R.slots i _ q1
    exact ⟨_, e1, q _ F H R (Ext.refl R.ex) rfl⟩
  · cases e

/-! ### two operands -/
/-- what an operation on data asks and gives -/
def rD (K : PySem.W.Frag) (g : PyData → PyData → Option PyData) : R2 := fun v w H Q => ∃ F x y z, Same F H ∧ Dv K F H v x ∧ Dv K F H w y ∧ g x y = some z ∧
  ∀ u F' H', Ext [] F H F' H' → Dq K F' u z → Q u H'
def rD1 (K : PySem.W.Frag) (g : PyData → Option PyData) : V → Hp → VK → Prop := fun v H Q => ∃ F x z, Same F H ∧ Dv K F H v x ∧ g x = some z ∧
  ∀ u F' H', Ext [] F H F' H' → Dq K F' u z → Q u H'
def mBin {T : Type} (g : PyData → PyData → Option PyData) (fa fb : ME T) : ME T := fun ρ t => do
  let (r1, t1) ← fa ρ t
  let (r2, t2) ← fb ρ t1
  let x ← rd ρ r1
  let y ← rd ρ r2
  let z ← g x y
  pure (.fro z, t2)
def mUn {T : Type} (g : PyData → Option PyData) (fa : ME T) : ME T := fun ρ t => do
  let (r1, t1) ← fa ρ t
  let x ← rd ρ r1
  let z ← g x
  pure (.fro z, t1)
theorem bind_some {α β : Type} {o : Option α} {f : α → Option β} {b : β} (h : (o >>= f) = some b) : ∃ a, o = some a ∧ f a = some b := by
  cases o with
  | none => cases h
  | some a => exact ⟨a, rfl, h⟩
theorem w_op {g : PyData → PyData → Option PyData} {fa fb : ME Γ.T} (σ : L2.St) (H : Hp) (Q : VK) : den Γ (mBin g fa fb) σ H Q → tOp (rD Γ.K g) (den Γ fa) (den Γ fb) σ H Q := by
  rintro ⟨F, ρ, t, r, t', R, e, q⟩
  obtain ⟨⟨r1, t1⟩, e1, e⟩ := bind_some e
  obtain ⟨⟨r2, t2⟩, e2, e⟩ := bind_some e
  obtain ⟨x, ex, e⟩ := bind_some e
  obtain ⟨y, ey, e⟩ := bind_some e
  obtain ⟨z, ez, e⟩ := bind_some e
  cases e
  refine ⟨F, ρ, t, _, _, R, e1, fun v F1 H1 R1 x1 k1 => ⟨F1, ρ, _, _, _, R1, e2, fun w F2 H2 R2 x2 k2 => ?_⟩⟩
  exact ⟨F2, x, y, z, R2.ex, R2.read (k1.mono x2.f) ex, R2.read k2 ey, ez, fun u F3 H3 x3 k3 => q u F3 H3 (R2.ext0 x3) (((x1.then x2 R2).then x3.wide (R2.ext0 x3))) k3⟩
theorem w_un {g : PyData → Option PyData} {fa : ME Γ.T} (σ : L2.St) (H : Hp) (Q : VK) : den Γ (mUn g fa) σ H Q → tUn (rD1 Γ.K g) (den Γ fa) σ H Q := by
  rintro ⟨F, ρ, t, r, t', R, e, q⟩
  obtain ⟨⟨r1, t1⟩, e1, e⟩ := bind_some e
  obtain ⟨x, ex, e⟩ := bind_some e
  obtain ⟨z, ez, e⟩ := bind_some e
  cases e
  refine ⟨F, ρ, t, _, _, R, e1, fun v F1 H1 R1 x1 k1 => ?_⟩
  exact ⟨F1, x, z, R1.ex, R1.read k1 ex, ez, fun u F3 H3 x3 k3 => q u F3 H3 (R1.ext0 x3) (x1.then x3.wide (R1.ext0 x3)) k3⟩
variable {a b c : Expr} {fa fb fc : ME Γ.T} {g : PyData → PyData → Option PyData} {pos : Pos}
theorem pe_bin {op : Operator} (ho : OpR X (binaryOp op) (rD Γ.K g)) (ha : PE X a (den Γ fa)) (hb : PE X b (den Γ fb)) : PE X (.BinOp a op b pos) (den Γ (mBin g fa fb)) := pe_w (pe_op ho ha hb) w_op
theorem pe_cmpD {op : CmpOp} (ho : OpR X (compareOp op) (rD Γ.K g)) (ha : PE X a (den Γ fa)) (hb : PE X b (den Γ fb)) (hm : behindInMarks op b = false) : PE X (.Compare a [op] [b] pos) (den Γ (mBin g fa fb)) := pe_w (pe_cmpR ho ha hb hm) w_op
theorem pe_unD {op : UnaryOp} {g : PyData → Option PyData} (ho : UnR X (unaryOp op) (rD1 Γ.K g)) (ha : PE X a (den Γ fa)) : PE X (.UnaryOp op a pos) (den Γ (mUn g fa)) := pe_w (pe_un ho ha) w_un

/-! ### tests -/
/-- a value that is True or False, as a test -/
def mTest {T : Type} (f : ME T) : Env → T → Option (Bool × T) := fun ρ t => match f ρ t with
  | some (.fro (.bool b), t') => some (b, t')
  | _ => none
theorem pt_b (h : PE X a (den Γ fa)) (he : ∀ whole, isTrue a X.env whole = (do let v ← whole; standAt a.pos; holding [v] (truthy v)) := by intro _; rfl) : PT X a (denT Γ (mTest fa)) := pt_w (pt_val h he) fun σ H Q => by
  rintro ⟨F, ρ, t, r, t', R, e, q⟩
  unfold mTest at e
  split at e
  · rename_i b t1 e1
    cases e
    refine ⟨F, ρ, t, _, _, R, e1, fun v F1 H1 R1 x1 k1 => ?_⟩
    cases (show Dq Γ.K F1 v (.bool _) from k1)
    exact ⟨_, rfl, q F1 H1 R1 x1⟩
  · cases e
/-- a comparison as a test -/
theorem pt_cmpD {op : CmpOp} (ho : OpR X (compareOp op) (rD Γ.K g)) (ha : PE X a (den Γ fa)) (hb : PE X b (den Γ fb)) (hm : behindInMarks op b = false) : PT X (.Compare a [op] [b] pos) (denT Γ (mTest (mBin g fa fb))) := pt_w (pt_cmpR ho ha hb hm) fun σ H Q => by
  rintro ⟨F, ρ, t, r, t', R, e, q⟩
  unfold mTest at e
  split at e
  · rename_i b t1 e1
    cases e
    refine w_op σ H _ ⟨F, ρ, t, _, _, R, e1, fun v F1 H1 R1 x1 k1 => ?_⟩
    cases (show Dq Γ.K F1 v (.bool _) from k1)
    exact ⟨_, rfl, q F1 H1 R1 x1⟩
  · cases e
def mAnd {T : Type} (f g : Env → T → Option (Bool × T)) : Env → T → Option (Bool × T) := fun ρ t => do
  let (b, t1) ← f ρ t
  if b then g ρ t1 else pure (false, t1)
def mOr {T : Type} (f g : Env → T → Option (Bool × T)) : Env → T → Option (Bool × T) := fun ρ t => do
  let (b, t1) ← f ρ t
  if b then pure (true, t1) else g ρ t1
def mNot {T : Type} (f : Env → T → Option (Bool × T)) : Env → T → Option (Bool × T) := fun ρ t => do
  let (b, t1) ← f ρ t
  pure (!b, t1)
variable {ta tb : Env → Γ.T → Option (Bool × Γ.T)} {rest : List Expr}
theorem w_and (σ : L2.St) (H : Hp) (Q : Bool → Hp → Prop) : denT Γ (mAnd ta tb) σ H Q → tAnd (denT Γ ta) (denT Γ tb) σ H Q := by
  rintro ⟨F, ρ, t, r, t', R, e, q⟩
  obtain ⟨⟨b1, t1⟩, e1, e⟩ := bind_some e
  refine ⟨F, ρ, t, b1, t1, R, e1, fun F1 H1 R1 x1 => ?_⟩
  cases b1 with
  | true => exact iteT ⟨F1, ρ, t1, r, t', R1, e, fun F2 H2 R2 x2 => q F2 H2 R2 (x1.then x2 R2)⟩
  | false => cases e; exact iteF (q F1 H1 R1 x1)
theorem w_or (σ : L2.St) (H : Hp) (Q : Bool → Hp → Prop) : denT Γ (mOr ta tb) σ H Q → tOr (denT Γ ta) (denT Γ tb) σ H Q := by
  rintro ⟨F, ρ, t, r, t', R, e, q⟩
  obtain ⟨⟨b1, t1⟩, e1, e⟩ := bind_some e
  refine ⟨F, ρ, t, b1, t1, R, e1, fun F1 H1 R1 x1 => ?_⟩
  cases b1 with
  | true => cases e; exact iteT (q F1 H1 R1 x1)
  | false => exact iteF ⟨F1, ρ, t1, r, t', R1, e, fun F2 H2 R2 x2 => q F2 H2 R2 (x1.then x2 R2)⟩
theorem w_not (σ : L2.St) (H : Hp) (Q : Bool → Hp → Prop) : denT Γ (mNot ta) σ H Q → tNot (denT Γ ta) σ H Q := by
  rintro ⟨F, ρ, t, r, t', R, e, q⟩
  obtain ⟨⟨b1, t1⟩, e1, e⟩ := bind_some e
  cases e
  exact ⟨F, ρ, t, _, _, R, e1, fun F1 H1 R1 x1 => q F1 H1 R1 x1⟩
theorem pw_andD (ha : PT X a (denT Γ ta)) (hb : PW X (.BoolOp .And (b :: rest) pos) (denT Γ tb)) : PW X (.BoolOp .And (a :: b :: rest) pos) (denT Γ (mAnd ta tb)) := pw_w (pw_and ha hb) w_and
theorem pw_orD (ha : PT X a (denT Γ ta)) (hb : PW X (.BoolOp .Or (b :: rest) pos) (denT Γ tb)) : PW X (.BoolOp .Or (a :: b :: rest) pos) (denT Γ (mOr ta tb)) := pw_w (pw_or ha hb) w_or
theorem pt_notD (ha : PT X a (denT Γ ta)) : PT X (.UnaryOp .Not a pos) (denT Γ (mNot ta)) := pt_w (pt_not ha) w_not

/-! ### and, or, not as values; a if t else b -/
def mAndV {T : Type} (f g : ME T) : ME T := fun ρ t => match f ρ t with
  | some (.fro (.bool b), t1) => if b then g ρ t1 else some (.fro (.bool false), t1)
  | _ => none
def mOrV {T : Type} (f g : ME T) : ME T := fun ρ t => match f ρ t with
  | some (.fro (.bool b), t1) => if b then some (.fro (.bool true), t1) else g ρ t1
  | _ => none
def mNotV {T : Type} (f : ME T) : ME T := fun ρ t => match f ρ t with
  | some (.fro (.bool b), t1) => some (.fro (.bool (!b)), t1)
  | _ => none
def mIf {T : Type} (c : Env → T → Option (Bool × T)) (f g : ME T) : ME T := fun ρ t => do
  let (b, t1) ← c ρ t
  if b then f ρ t1 else g ρ t1
theorem pe_andD (ha : PE X a (den Γ fa)) (hb : PE X (.BoolOp .And (b :: rest) pos) (den Γ fb)) : PE X (.BoolOp .And (a :: b :: rest) pos) (den Γ (mAndV fa fb)) := pe_w (pe_and ha hb) fun σ H Q => by
  rintro ⟨F, ρ, t, r, t', R, e, q⟩
  unfold mAndV at e
  split at e
  · rename_i b1 t1 e1
    refine ⟨F, ρ, t, _, _, R, e1, fun v F1 H1 R1 x1 k1 => ?_⟩
    cases (show Dq Γ.K F1 v (.bool _) from k1)
    refine ⟨_, rfl, ?_⟩
    cases b1 with
    | true => exact iteT ⟨F1, ρ, t1, r, t', R1, e, fun w F2 H2 R2 x2 k2 => q w F2 H2 R2 (x1.then x2 R2) k2⟩
    | false => cases e; exact iteF (q _ F1 H1 R1 x1 (.bl false))
  · cases e
theorem pe_orD (ha : PE X a (den Γ fa)) (hb : PE X (.BoolOp .Or (b :: rest) pos) (den Γ fb)) : PE X (.BoolOp .Or (a :: b :: rest) pos) (den Γ (mOrV fa fb)) := pe_w (pe_or ha hb) fun σ H Q => by
  rintro ⟨F, ρ, t, r, t', R, e, q⟩
  unfold mOrV at e
  split at e
  · rename_i b1 t1 e1
    refine ⟨F, ρ, t, _, _, R, e1, fun v F1 H1 R1 x1 k1 => ?_⟩
    cases (show Dq Γ.K F1 v (.bool _) from k1)
    refine ⟨_, rfl, ?_⟩
    cases b1 with
    | true => cases e; exact iteT (q _ F1 H1 R1 x1 (.bl true))
    | false => exact iteF ⟨F1, ρ, t1, r, t', R1, e, fun w F2 H2 R2 x2 k2 => q w F2 H2 R2 (x1.then x2 R2) k2⟩
  · cases e
theorem pe_notD (ha : PE X a (den Γ fa)) : PE X (.UnaryOp .Not a pos) (den Γ (mNotV fa)) := pe_w (pe_not ha) fun σ H Q => by
  rintro ⟨F, ρ, t, r, t', R, e, q⟩
  unfold mNotV at e
  split at e
  · rename_i b1 t1 e1
    cases e
    refine ⟨F, ρ, t, _, _, R, e1, fun v F1 H1 R1 x1 k1 => ?_⟩
    cases (show Dq Γ.K F1 v (.bool _) from k1)
    exact ⟨_, rfl, q _ F1 H1 R1 x1 (.bl _)⟩
  · cases e
theorem pe_ifD (hc : PT X c (denT Γ ta)) (ha : PE X a (den Γ fa)) (hb : PE X b (den Γ fb)) : PE X (.IfExp c a b pos) (den Γ (mIf ta fa fb)) := pe_w (pe_ifExp hc ha hb) fun σ H Q => by
  rintro ⟨F, ρ, t, r, t', R, e, q⟩
  obtain ⟨⟨b1, t1⟩, e1, e⟩ := bind_some e
  refine ⟨F, ρ, t, b1, t1, R, e1, fun F1 H1 R1 x1 => ?_⟩
  cases b1 with
  | true => exact iteT ⟨F1, ρ, t1, r, t', R1, e, fun w F2 H2 R2 x2 k2 => q w F2 H2 R2 (x1.then x2 R2) k2⟩
  | false => exact iteF ⟨F1, ρ, t1, r, t', R1, e, fun w F2 H2 R2 x2 k2 => q w F2 H2 R2 (x1.then x2 R2) k2⟩

/-! ### argument lists, displays, calls of built-ins -/
def mNil {T : Type} : Env → T → Option (List Rv × T) := fun _ t => some ([], t)
def mCons {T : Type} (f : ME T) (g : Env → T → Option (List Rv × T)) : Env → T → Option (List Rv × T) := fun ρ t => do
  let (r, t1) ← f ρ t
  let (rs, t2) ← g ρ t1
  pure (r :: rs, t2)
variable {es : List Expr} {ga : Env → Γ.T → Option (List Rv × Γ.T)}
theorem pa_nilD : PA X [] (denA Γ mNil) := pa_w pa_nil fun σ H Q => by
  rintro ⟨F, ρ, t, r, t', R, e, q⟩
  cases e
  exact q [] F H R (Ext.refl R.ex) .nil
theorem w_cons (σ : L2.St) (H : Hp) (Q : List V → Hp → Prop) : denA Γ (mCons fa ga) σ H Q → tCons (den Γ fa) (denA Γ ga) σ H Q := by
  rintro ⟨F, ρ, t, r, t', R, e, q⟩
  obtain ⟨⟨r1, t1⟩, e1, e⟩ := bind_some e
  obtain ⟨⟨rs, t2⟩, e2, e⟩ := bind_some e
  cases e
  exact ⟨F, ρ, t, _, _, R, e1, fun v F1 H1 R1 x1 k1 => ⟨F1, ρ, _, _, _, R1, e2, fun vs F2 H2 R2 x2 k2 => q _ F2 H2 R2 (x1.then x2 R2) (.cons (k1.mono x2.f) k2)⟩⟩
theorem pa_consD (ha : PE X a (den Γ fa)) (hr : PA X es (denA Γ ga)) (hs : starEach (a :: es) X.env = (false, eval a X.env) :: starEach es X.env := by rfl) : PA X (a :: es) (denA Γ (mCons fa ga)) := pa_w (pa_cons ha hr hs) w_cons
theorem pk_nilD : PK X [] (denA Γ mNil) := pk_w pk_nil fun σ H Q => by
  rintro ⟨F, ρ, t, r, t', R, e, q⟩
  cases e
  exact q [] F H R (Ext.refl R.ex) .nil
theorem pk_consD {nm : Option Str} {kpos : Pos} {kws : List Keyword} (ha : PE X a (den Γ fa)) (hr : PK X kws (denA Γ ga)) : PK X (⟨nm, a, kpos⟩ :: kws) (denA Γ (mCons fa ga)) := pk_w (pk_cons ha hr) w_cons
/-- kept data of all -/
def kept : List Rv → Option (List PyData)
  | [] => some []
  | .fro d :: r => (kept r).map (d :: ·)
  | _ => none
theorem kept_ok {F : Hp} {σ : L2.St} : ∀ {vs : List V} {rs : List Rv} {ds : List PyData}, RvsOk Γ F σ vs rs → kept rs = some ds → DqA Γ.K F vs ds
  | _, _, _, .nil, e => by cases e; exact .nil
  | _, .fro d :: r, ds, .cons h t, e => by
    unfold kept at e
    cases z : kept r with
    | none => rw [z] at e; cases e
    | some l => rw [z] at e; cases e; exact .cons h (kept_ok t z)
  | _, .loan i :: r, ds, .cons h t, e => by cases e
  | _, .tray _ :: r, ds, .cons h t, e => by cases e
def rds (ρ : Env) : List Rv → Option (List PyData)
  | [] => some []
  | r :: rs => do
    let d ← rd ρ r
    let ds ← rds ρ rs
    pure (d :: ds)
/-- a tuple display -/
def mTup {T : Type} (g : Env → T → Option (List Rv × T)) : ME T := fun ρ t => do
  let (rs, t1) ← g ρ t
  let ds ← kept rs
  if ds.length ≤ sizeLine then pure (.fro (.tuple ds), t1) else none
theorem pe_tupD {x1} (h : PA X es (denA Γ ga)) : PE X (.Tuple es x1 pos) (den Γ (mTup ga)) := pe_w (pe_tup h) fun σ H Q => by
  rintro ⟨F, ρ, t, r, t', R, e, q⟩
  obtain ⟨⟨rs, t1⟩, e1, e⟩ := bind_some e
  obtain ⟨ds, e2, e⟩ := bind_some e
  split at e
  · rename_i hz
    cases e
    refine ⟨F, ρ, t, _, _, R, e1, fun vs F1 H1 R1 x1 k1 => ?_⟩
    have dq := kept_ok k1 e2
    refine ⟨by rw [dq.length]; exact hz, fun p hp => ?_⟩
    have x2 : Ext [] F1 H1 (upd F1 p (.tup vs)) (upd H1 p (.tup vs)) := Ext.keep R1.ex hp
    exact q _ _ _ (R1.ext0 x2) (x1.then x2.wide (R1.ext0 x2)) (.tup (.of upd_same) (dq.mono x2.f))
  · cases e
/-- a list display -/
def mLst {T : Type} (g : Env → T → Option (List Rv × T)) : Env → T → Option (PyData × T) := fun ρ t => do
  let (rs, t1) ← g ρ t
  let ds ← kept rs
  if ds.length ≤ sizeLine then pure (.list ds, t1) else none
theorem pe_lstD (h : PA X es (denA Γ ga)) : PE X (.List es pos) (denL Γ (mLst ga)) := pe_w (pe_lst h) fun σ H Q => by
  rintro ⟨F, ρ, t, r, t', R, e, q⟩
  obtain ⟨⟨rs, t1⟩, e1, e⟩ := bind_some e
  obtain ⟨ds, e2, e⟩ := bind_some e
  split at e
  · rename_i hz
    cases e
    refine ⟨F, ρ, t, _, _, R, e1, fun vs F1 H1 R1 x1 k1 => ?_⟩
    have dq := kept_ok k1 e2
    refine ⟨by rw [dq.length]; exact hz, fun p hp => ?_⟩
    have x2 : Ext [] F1 H1 F1 (upd H1 p (.lst vs)) := Ext.new R1.ex hp
    have hp0 : H p = none := by
      cases z : H p with
      | none => rfl
      | some o =>
        by_cases hS : p ∈ Γ.S
        · obtain ⟨o2, q2⟩ := Γ.has _ H1 p hS R1.inn
          rw [hp] at q2; cases q2
        · have := x1.h p o hS z
          rw [hp] at this; cases this
    have fr := R1.fresh (H' := upd H1 p (.lst vs)) (d := .list ds) ⟨R1.ex.free hp, vs, upd_same, dq⟩ hp
    exact q _ _ _ (R1.ext0 x2) (x1.then x2.wide (R1.ext0 x2)) ⟨fr.own, hp0, fr.old, fr.nS, fr.nsl⟩
  · cases e
end
end Mi
/-! What the operators do to data. -/
namespace Mi
open PySem L2

def addD : PyData → PyData → Option PyData
  | .int i, .int j => some (.int (i + j))
  | .str x, .str y => if x.length + y.length ≤ sizeLine then some (.str (x ++ y)) else none
  | .list xs, .list ys => if xs.length + ys.length ≤ sizeLine then some (.list (xs ++ ys)) else none
  | .tuple xs, .tuple ys => if xs.length + ys.length ≤ sizeLine then some (.tuple (xs ++ ys)) else none
  | _, _ => none
def subD : PyData → PyData → Option PyData
  | .int i, .int j => some (.int (i - j))
  | _, _ => none
def mulI (i j : Int) : Option PyData := if (Builtin.Int.intBits i : Int) + (Builtin.Int.intBits j : Int) ≤ 134217728 then some (.int (i * j)) else none
def mulD : PyData → PyData → Option PyData
  | .int i, .int j => mulI i j
  | .list xs, .int k => if -(2 ^ 63) ≤ k ∧ k < 2 ^ 63 ∧ xs.length * k.toNat ≤ sizeLine then some (.list (List.replicate k.toNat xs).flatten) else none
  | .tuple xs, .int k => if -(2 ^ 63) ≤ k ∧ k < 2 ^ 63 ∧ (xs.isEmpty || k == 1) = true then some (.tuple xs) else
    if xs ≠ [] ∧ 2 ≤ k ∧ k ≤ 1000 ∧ xs.length ≤ 1000 then some (.tuple (List.replicate k.toNat xs).flatten) else none
  | _, _ => none
def fdivD : PyData → PyData → Option PyData
  | .int i, .int j => if 0 < j ∧ j.natAbs.log2 < 9000 then some (.int (i / j)) else none
  | _, _ => none
def modD : PyData → PyData → Option PyData
  | .int i, .int j => if 0 < j then some (.int (i % j)) else none
  | _, _ => none
def powD : PyData → PyData → Option PyData
  | .int i, .int j => if 0 ≤ j ∧ j ≤ 1000000 ∧ i.natAbs < 2 ^ 64 then some (.int (i ^ j.toNat)) else none
  | _, _ => none
def shlD : PyData → PyData → Option PyData
  | .int i, .int j => if 0 ≤ j ∧ (Builtin.Int.intBits i : Int) + j ≤ 2 ^ 27 then some (.int (i * 2 ^ j.toNat)) else none
  | _, _ => none
def shrD : PyData → PyData → Option PyData
  | .int i, .int j => if 0 ≤ j then some (.int (i / 2 ^ j.toNat)) else none
  | _, _ => none
def andD : PyData → PyData → Option PyData
  | .int i, .int j => some (.int (Builtin.bitAnd i j))
  | _, _ => none
def orD : PyData → PyData → Option PyData
  | .int i, .int j => some (.int (Builtin.bitOr i j))
  | _, _ => none
def xorD : PyData → PyData → Option PyData
  | .int i, .int j => some (.int (Builtin.bitXor i j))
  | _, _ => none
def ltD : PyData → PyData → Option PyData
  | .int i, .int j => some (.bool (decide (i < j)))
  | _, _ => none
def leD : PyData → PyData → Option PyData
  | .int i, .int j => some (.bool (decide (i ≤ j)))
  | _, _ => none
def gtD : PyData → PyData → Option PyData
  | .int i, .int j => some (.bool (decide (j < i)))
  | _, _ => none
def geD : PyData → PyData → Option PyData
  | .int i, .int j => some (.bool (decide (j ≤ i)))
  | _, _ => none
/-- lists of unlike lengths; a tuple beside () -/
def cmpX : PyData → PyData → Option Bool
  | .list xs, .list ys => if xs.length = ys.length then none else some false
  | .tuple xs, .tuple [] => some xs.isEmpty
  | .int i, .int j => some (i == j)
  | .str x, .str y => some (x == y)
  | _, _ => none
def eqD (x y : PyData) : Option PyData := match cmpX x y with
  | some b => some (.bool b)
  | none => if SeqAt.shaped x = true ∧ SeqAt.shaped y = true then some (.bool (PyData.eqv x y)) else none
def neD (x y : PyData) : Option PyData := match cmpX x y with
  | some b => some (.bool (!b))
  | none => if SeqAt.shaped x = true ∧ SeqAt.shaped y = true then some (.bool (!PyData.eqv x y)) else none
def isN : PyData → Bool
  | .none => true
  | _ => false
def isND (x y : PyData) : Option PyData := match y with
  | .none => some (.bool (isN x))
  | _ => none
def isNotND (x y : PyData) : Option PyData := match y with
  | .none => some (.bool (!isN x))
  | _ => none
def negD : PyData → Option PyData
  | .int i => some (.int (-i))
  | _ => none
def invD : PyData → Option PyData
  | .int i => some (.int (Builtin.bitNot i))
  | _ => none

theorem vint {K : PySem.W.Frag} {F H : Hp} {v : V} {i : Int} (h : Dv K F H v (.int i)) : v = .int i := h
/-- an operation on two ints -/
theorem op_ints {X : Cx} {f : Value → Value → Sem Value} {C : Int → Int → Prop} {g : Int → Int → V} {gd : PyData → PyData → Option PyData} {d : Int → Int → PyData} (ho : OpR X f (rI C g)) (hd : ∀ F i j, Dq X.K F (g i j) (d i j))
    (hg : ∀ x y z, gd x y = some z → ∃ i j, x = .int i ∧ y = .int j ∧ C i j ∧ z = d i j) : OpR X f (rD X.K gd) := by
  rintro pins s σ H v w a b Q I ra rb ⟨F, x, y, z, sm, dx, dy, e, q⟩
  obtain ⟨i, j, rfl, rfl, hc, rfl⟩ := hg x y z e
  exact ho pins s σ H _ _ a b Q I ra rb ⟨i, j, dx, dy, hc, q _ F H (Ext.refl sm) (hd F i j)⟩
theorem op_ints0 {X : Cx} {f : Value → Value → Sem Value} {g : Int → Int → V} {gd : PyData → PyData → Option PyData} {d : Int → Int → PyData} (ho : OpR X f (rI0 g)) (hd : ∀ F i j, Dq X.K F (g i j) (d i j))
    (hg : ∀ x y z, gd x y = some z → ∃ i j, x = .int i ∧ y = .int j ∧ z = d i j) : OpR X f (rD X.K gd) := by
  rintro pins s σ H v w a b Q I ra rb ⟨F, x, y, z, sm, dx, dy, e, q⟩
  obtain ⟨i, j, rfl, rfl, rfl⟩ := hg x y z e
  exact ho pins s σ H _ _ a b Q I ra rb ⟨i, j, dx, dy, q _ F H (Ext.refl sm) (hd F i j)⟩
section
variable {X : Cx}
theorem op_addD : OpR X (binaryOp .Add) (rD X.K addD) := by
  rintro pins s σ H v w a b Q I ra rb ⟨F, x, y, z, sm, dx, dy, e, q⟩
  unfold addD at e
  split at e
  · cases e
    exact op_add pins s σ H _ _ a b Q I ra rb ⟨_, _, dx, dy, q _ F H (Ext.refl sm) (.int _)⟩
  · split at e
    · rename_i hz
      cases e
      exact op_add_str pins s σ H _ _ a b Q I ra rb ⟨_, _, dx, dy, hz, q _ F H (Ext.refl sm) (.str _)⟩
    · cases e
  · split at e
    · rename_i xs ys hz
      cases e
      obtain ⟨l, vs, rfl, h1, k1⟩ := dx
      obtain ⟨m, ws, rfl, h2, k2⟩ := dy
      refine op_cat pins s σ H _ _ a b Q I ra rb ⟨l, m, vs, ws, rfl, rfl, h1, h2, by rw [k1.length, k2.length]; exact hz, fun p hp => ?_⟩
      have x2 : Ext [] F H (upd F p (.lst (vs ++ ws))) (upd H p (.lst (vs ++ ws))) := Ext.keep sm hp
      exact q _ _ _ x2 (.lst upd_same ((k1.append k2).mono x2.f))
    · cases e
  · split at e
    · rename_i xs ys hz
      cases e
      obtain ⟨l, vs, rfl, h1, k1⟩ := dx
      obtain ⟨m, ws, rfl, h2, k2⟩ := dy
      have l1 := k1.length
      have l2 := k2.length
      refine op_catA pins s σ H _ _ a b Q I ra rb ⟨l, m, vs, ws, rfl, rfl, same_t sm h1, same_t sm h2, by rw [l1, l2]; exact hz, fun n1 => ?_, fun _ n2 => ?_, fun _ _ p hp => ?_⟩
      · subst n1
        cases k1
        exact q _ F H (Ext.refl sm) (.tup h2 k2)
      · subst n2
        cases k2
        rw [List.append_nil] at q
        exact q _ F H (Ext.refl sm) (.tup h1 k1)
      · have x2 : Ext [] F H (upd F p (.tup (vs ++ ws))) (upd H p (.tup (vs ++ ws))) := Ext.keep sm hp
        exact q _ _ _ x2 (.tup (.of upd_same) ((k1.append k2).mono x2.f))
    · cases e
  · cases e
theorem tup_mul_same (l : Addr) (items : Array Value) (n : Nat) (sl : Array (Option Value)) (dd : Option Addr) (x : Int) (u : Tok) (c0 : (decide (x < -(2 ^ 63)) || decide (x ≥ 2 ^ 63)) = false) (c1 : (items.isEmpty || x == 1) = true) :
    Meets (Builtin.«tuple.__mul__» ⟨[.ref l, .int x u], []⟩) (fun _ R s => s.heap.get? l = some { cls := .type "tuple", dict := dd, data := .seq items n, slots := sl } ∧ R (.ok (.ret (Value.ref l))) s) :=
  .of_wp fun prog w A R s h => by
    obtain ⟨hp, g, d, tk, os⟩ := s
    obtain ⟨hl, h⟩ := h
    have f1 := AutoSeq1.idx_int
    wp_walk using wpAny_loadPart' hl
    repeat (first
      | (refine wpAny_ite_false (decide_eq_false (by rw [c0]; exact Bool.false_ne_true)) ?_; wp_walk using wpAny_loadPart' hl)
      | (refine wpAny_ite_true (decide_eq_true c1) ?_; wp_walk using wpAny_loadPart' hl))
    exact ⟨_, rfl, h⟩
theorem op_repS {X : Cx} : OpR X (binaryOp .Mult) (fun x y H Q => ∃ l k xs, x = .ref l ∧ y = .int k ∧ SqT X.K H l xs ∧ -(2 ^ 63) ≤ k ∧ k < 2 ^ 63 ∧ (xs.isEmpty || k == 1) = true ∧ Q (.ref l) H) := by
  rintro pins s σ H x y v u Q I rx ry ⟨l, k, xs, rfl, rfl, hT, h1, h2, h3, q⟩
  cases rx
  obtain ⟨t, rfl⟩ := ry
  obtain ⟨its, r, ⟨⟨cls, dd, data, sl⟩, ho, hc, n, hd⟩, hs⟩ := I.tuple hT
  simp only at hc hd
  subst hc hd
  have c0 : (decide (k < -(2 ^ 63)) || decide (k ≥ 2 ^ 63)) = false := by
    rw [decide_eq_false (by omega), decide_eq_false (by omega)] <;> rfl
  have c1 : (its.toArray.isEmpty || k == 1) = true := by
    have : its.toArray.isEmpty = xs.isEmpty := by cases r <;> rfl
    rw [this]
    exact h3
  exact wpAny_binaryOp_repeat_ref (T := "tuple") (U := "int") (by decide) ⟨_, ho, rfl⟩ (fun s' => typeIs_int s' k t) noFill_tuple_mul F.fills_int_mul F.slot_int_rmul repeat_tuple F.slot_int_index.lookup
    (call_meets F.slot_int_rmul (typeIs_int s k t) F.entry_int_rmul (F.args_int_rmul_2 _ _) (int_rmul_tuple k t l its.toArray n dd sl)
      ⟨ho, rfl, ⟨_, ho, rfl⟩, call_meets F.slot_tuple_mul ⟨_, ho, rfl⟩ F.entry_tuple_mul (F.args_tuple_mul_2 _ _) (tup_mul_same l its.toArray n sl dd k t c0 c1) ⟨ho, .ref l, H, I.tok _, rfl, q⟩⟩)
theorem op_mulD : OpR X (binaryOp .Mult) (rD X.K mulD) := by
  rintro pins s σ H v w a b Q I ra rb ⟨F, x, y, z, sm, dx, dy, e, q⟩
  unfold mulD at e
  split at e
  · unfold mulI at e
    split at e
    · rename_i hz
      cases e
      exact op_mulX pins s σ H _ _ a b Q I ra rb ⟨_, _, dx, dy, hz, q _ F H (Ext.refl sm) (.int _)⟩
    · cases e
  · split at e
    · rename_i xs k hz
      cases e
      obtain ⟨l, vs, rfl, h1, k1⟩ := dx
      refine op_rep pins s σ H _ _ a b Q I ra rb ⟨l, _, vs, rfl, dy, h1, hz.1, hz.2.1, by rw [k1.length]; exact hz.2.2, fun p hp => ?_⟩
      have x2 : Ext [] F H (upd F p (.lst (List.replicate k.toNat vs).flatten)) (upd H p (.lst (List.replicate k.toNat vs).flatten)) := Ext.keep sm hp
      exact q _ _ _ x2 (.lst upd_same ((k1.rep _).mono x2.f))
    · cases e
  · rename_i xs k
    split at e
    · rename_i hz
      cases e
      obtain ⟨l, vs, rfl, h1, k1⟩ := dx
      have ev : vs.isEmpty = xs.isEmpty := by cases k1 <;> rfl
      exact op_repS pins s σ H _ _ a b Q I ra rb ⟨l, k, vs, rfl, dy, same_t sm h1, hz.1, hz.2.1, by rw [ev]; exact hz.2.2, q _ F H (Ext.refl sm) (.tup h1 k1)⟩
    split at e
    · rename_i _ hz
      cases e
      obtain ⟨l, vs, rfl, h1, k1⟩ := dx
      refine op_repT pins s σ H _ _ a b Q I ra rb ⟨l, _, vs, rfl, dy, same_t sm h1, fun n => ?_, hz.2.1, hz.2.2.1, by rw [k1.length]; exact hz.2.2.2, fun p hp => ?_⟩
      · subst n
        cases k1
        exact hz.1 rfl
      · have x2 : Ext [] F H (upd F p (.tup (List.replicate k.toNat vs).flatten)) (upd H p (.tup (List.replicate k.toNat vs).flatten)) := Ext.keep sm hp
        exact q _ _ _ x2 (.tup (.of upd_same) ((k1.rep _).mono x2.f))
    · cases e
  · cases e
theorem op_subD : OpR X (binaryOp .Sub) (rD X.K subD) := op_ints0 op_sub (d := fun i j => .int (i - j)) (fun F i j => .int _) fun x y z e => by
  unfold subD at e
  split at e
  · cases e; exact ⟨_, _, rfl, rfl, rfl⟩
  · cases e
theorem op_andDD : OpR X (binaryOp .BitAnd) (rD X.K andD) := op_ints0 op_and (d := fun i j => .int (Builtin.bitAnd i j)) (fun F i j => .int _) fun x y z e => by
  unfold andD at e
  split at e
  · cases e; exact ⟨_, _, rfl, rfl, rfl⟩
  · cases e
theorem op_orDD : OpR X (binaryOp .BitOr) (rD X.K orD) := op_ints0 op_or (d := fun i j => .int (Builtin.bitOr i j)) (fun F i j => .int _) fun x y z e => by
  unfold orD at e
  split at e
  · cases e; exact ⟨_, _, rfl, rfl, rfl⟩
  · cases e
theorem op_xorDD : OpR X (binaryOp .BitXor) (rD X.K xorD) := op_ints0 op_xor (d := fun i j => .int (Builtin.bitXor i j)) (fun F i j => .int _) fun x y z e => by
  unfold xorD at e
  split at e
  · cases e; exact ⟨_, _, rfl, rfl, rfl⟩
  · cases e
theorem op_fdivD : OpR X (binaryOp .FloorDiv) (rD X.K fdivD) := op_ints op_fdivW (d := fun i j => .int (i / j)) (fun F i j => .int _) fun x y z e => by
  unfold fdivD at e
  split at e
  · split at e
    · rename_i hc
      cases e; exact ⟨_, _, rfl, rfl, hc, rfl⟩
    · cases e
  · cases e
theorem op_modD : OpR X (binaryOp .Mod) (rD X.K modD) := op_ints op_mod (d := fun i j => .int (i % j)) (fun F i j => .int _) fun x y z e => by
  unfold modD at e
  split at e
  · split at e
    · rename_i hc
      cases e; exact ⟨_, _, rfl, rfl, hc, rfl⟩
    · cases e
  · cases e
theorem op_powD : OpR X (binaryOp .Pow) (rD X.K powD) := op_ints op_pow (d := fun i j => .int (i ^ j.toNat)) (fun F i j => .int _) fun x y z e => by
  unfold powD at e
  split at e
  · split at e
    · rename_i hc
      cases e; exact ⟨_, _, rfl, rfl, hc, rfl⟩
    · cases e
  · cases e
theorem op_shlD : OpR X (binaryOp .LShift) (rD X.K shlD) := op_ints op_shlW (d := fun i j => .int (i * 2 ^ j.toNat)) (fun F i j => .int _) fun x y z e => by
  unfold shlD at e
  split at e
  · split at e
    · rename_i hc
      cases e; exact ⟨_, _, rfl, rfl, hc, rfl⟩
    · cases e
  · cases e
theorem op_shrD : OpR X (binaryOp .RShift) (rD X.K shrD) := op_ints op_shr (d := fun i j => .int (i / 2 ^ j.toNat)) (fun F i j => .int _) fun x y z e => by
  unfold shrD at e
  split at e
  · split at e
    · rename_i hc
      cases e; exact ⟨_, _, rfl, rfl, hc, rfl⟩
    · cases e
  · cases e
theorem op_ltD : OpR X (compareOp .Lt) (rD X.K ltD) := op_ints0 op_lt (d := fun i j => .bool (decide (i < j))) (fun F i j => .bl _) fun x y z e => by
  unfold ltD at e
  split at e
  · cases e; exact ⟨_, _, rfl, rfl, rfl⟩
  · cases e
theorem op_leD : OpR X (compareOp .LtE) (rD X.K leD) := op_ints0 op_le (d := fun i j => .bool (decide (i ≤ j))) (fun F i j => .bl _) fun x y z e => by
  unfold leD at e
  split at e
  · cases e; exact ⟨_, _, rfl, rfl, rfl⟩
  · cases e
theorem op_gtD : OpR X (compareOp .Gt) (rD X.K gtD) := op_ints0 op_gt (d := fun i j => .bool (decide (j < i))) (fun F i j => .bl _) fun x y z e => by
  unfold gtD at e
  split at e
  · cases e; exact ⟨_, _, rfl, rfl, rfl⟩
  · cases e
theorem op_geD : OpR X (compareOp .GtE) (rD X.K geD) := op_ints0 op_ge (d := fun i j => .bool (decide (j ≤ i))) (fun F i j => .bl _) fun x y z e => by
  unfold geD at e
  split at e
  · cases e; exact ⟨_, _, rfl, rfl, rfl⟩
  · cases e
theorem un_negD : UnR X (unaryOp .USub) (rD1 X.K negD) := by
  rintro pins s σ H v a Q I ra ⟨F, x, z, sm, dx, e, q⟩
  unfold negD at e
  split at e
  · cases e
    exact un_neg pins s σ H _ a Q I ra ⟨_, dx, q _ F H (Ext.refl sm) (.int _)⟩
  · cases e
theorem un_invD : UnR X (unaryOp .Invert) (rD1 X.K invD) := by
  rintro pins s σ H v a Q I ra ⟨F, x, z, sm, dx, e, q⟩
  unfold invD at e
  split at e
  · cases e
    exact un_inv pins s σ H _ a Q I ra ⟨_, dx, q _ F H (Ext.refl sm) (.int _)⟩
  · cases e

/-! ### == -/
mutual
theorem Dq.dp {K : PySem.W.Frag} {F : Hp} : ∀ {v : V} {d : PyData}, Dq K F v d → d.canLay0 = true → Dp K F v d
  | _, _, .non, _ => .non
  | _, _, .bl b, _ => .bl b
  | _, _, .int i, _ => .int i
  | _, _, .str x, _ => .str x
  | _, _, .lst h a, c => .lst (.of h) (DqA.dp a (by simpa [PyData.canLay0] using c))
  | _, _, .tup h a, c => .tup h (DqA.dp a (by simpa [PyData.canLay0] using c))
  | _, _, .dct h a, c => by simp [PyData.canLay0] at c
theorem DqA.dp {K : PySem.W.Frag} {F : Hp} : ∀ {v : List V} {d : List PyData}, DqA K F v d → PyData.canLayAll0 d = true → DpAll K F v d
  | _, _, .nil, _ => .nil
  | _, _, .cons h t, c => by
    simp only [PyData.canLayAll0, Bool.and_eq_true] at c
    exact .cons (Dq.dp h c.1) (DqA.dp t c.2)
end
theorem same_l {K : PySem.W.Frag} {F F' : Hp} {a : Addr} {xs : List V} (e : Same F F') (h : SqL K F a xs) : SqL K F' a xs := e.seq h
mutual
theorem Dp.mono {K : PySem.W.Frag} {F F' : Hp} (e : Same F F') : ∀ {v : V} {d : PyData}, Dp K F v d → Dp K F' v d
  | _, _, .non => .non
  | _, _, .bl b => .bl b
  | _, _, .int i => .int i
  | _, _, .str x => .str x
  | _, _, .lst h a => .lst (same_l e h) (DpAll.mono e a)
  | _, _, .tup h a => .tup (same_t e h) (DpAll.mono e a)
theorem DpAll.mono {K : PySem.W.Frag} {F F' : Hp} (e : Same F F') : ∀ {v : List V} {d : List PyData}, DpAll K F v d → DpAll K F' v d
  | _, _, .nil => .nil
  | _, _, .cons h t => .cons (Dp.mono e h) (DpAll.mono e t)
end
theorem Dv.dp {K : PySem.W.Frag} {F H : Hp} {v : V} {d : PyData} (sm : Same F H) (h : Dv K F H v d) (c : d.canLay0 = true) : Dp K H v d := by
  cases d with
  | none => cases (show v = _ from h); exact .non
  | bool b => cases (show v = _ from h); exact .bl b
  | int i => cases (show v = _ from h); exact .int i
  | str x => cases (show v = _ from h); exact .str x
  | list ds => obtain ⟨a, vs, rfl, h1, k⟩ := h; exact .lst (.of h1) (DpAll.mono sm (k.dp (by simpa [PyData.canLay0] using c)))
  | tuple ds => obtain ⟨a, vs, rfl, h1, k⟩ := h; exact .tup (same_t sm h1) (DpAll.mono sm (k.dp (by simpa [PyData.canLay0] using c)))
  | dict es => simp [PyData.canLay0] at c
theorem cmp_lists {pins : List (Addr × Obj)} {s : Shared} {σ : L2.St} {H : Hp} {b c : Addr} {xs ys : List V} {op : CmpOp} {r : Bool} {Q : Value → Shared → Prop} (hu : X.A.units + 64 < cLine) (I : L2.Inv X pins σ H s) (h1 : H b = some (.lst xs)) (h2 : H c = some (.lst ys)) (hne : ¬ xs.length = ys.length)
    (hop : (op = .Eq ∧ r = false) ∨ (op = .NotEq ∧ r = true)) (q : Q (.bool r) s) : wpAny (model X.prog X.w) X.A (compareOp op (.ref b) (.ref c)) Q X.xe s := by
  obtain ⟨us, r1, p1, _⟩ := I.list (.of h1)
  obtain ⟨ws, r2, p2, _⟩ := I.list (.of h2)
  have hsz : (us.toArray.size != ws.toArray.size) = true := by
    rw [List.size_toArray, List.size_toArray, ← r1.length, ← r2.length]
    simpa using hne
  have hu2 : X.A.units < cLine := by omega
  rcases hop with ⟨rfl, rfl⟩ | ⟨rfl, rfl⟩
  · exact SeqAt.RcAt.lists_lengths p1.isList p2.isList hsz hu2 _ _ _ Q q
  · exact SeqAt.RcNeAt.lists_lengths p1.isList p2.isList hsz hu2 _ _ _ Q q
theorem cmp_tup0 {pins : List (Addr × Obj)} {s : Shared} {σ : L2.St} {H : Hp} {b c : Addr} {xs : List V} {op : CmpOp} {r : Bool} {Q : Value → Shared → Prop} (hu : X.A.units + 64 < cLine) (I : L2.Inv X pins σ H s) (h1 : SqT X.K H b xs) (h2 : SqT X.K H c [])
    (hop : (op = .Eq ∧ r = xs.isEmpty) ∨ (op = .NotEq ∧ r = !xs.isEmpty)) (q : Q (.bool r) s) : wpAny (model X.prog X.w) X.A (compareOp op (.ref b) (.ref c)) Q X.xe s := by
  obtain ⟨us, r1, ⟨o1, g1, c1, n1, d1⟩, _⟩ := I.tuple h1
  obtain ⟨ws, r2, ⟨o2, g2, c2, n2, d2⟩, _⟩ := I.tuple h2
  cases r2
  have hu2 : X.A.units < cLine := by omega
  have t1 : s.heap.IsTuple b us.toArray := ⟨o1, g1, c1, n1, d1⟩
  have t2 : s.heap.IsTuple c ([] : List Value).toArray := ⟨o2, g2, c2, n2, d2⟩
  have ev : xs.isEmpty = us.isEmpty := by cases r1 <;> rfl
  have es : ((List.range (min us.toArray.size ([] : List Value).toArray.size)).all (fun _ => true) && us.toArray.size == ([] : List Value).toArray.size) = xs.isEmpty := by
    rw [ev]
    cases us <;> simp
  rcases hop with ⟨rfl, rfl⟩ | ⟨rfl, rfl⟩
  · refine SeqAt.RcAt.tuples (e := fun _ => true) t1 t2 hu2 (fun j _ h => absurd h (by simp)) _ _ _ Q ?_
    rw [es]
    exact q
  · refine SeqAt.RcNeAt.tuples (e := fun _ => true) t1 t2 hu2 (fun j _ h => absurd h (by simp)) _ _ _ Q ?_
    rw [es]
    exact q
theorem cmpX_run {pins : List (Addr × Obj)} {s : Shared} {σ : L2.St} {F H : Hp} {v w : V} {a b : Value} {x y : PyData} {op : CmpOp} {k r : Bool} {Q : Value → Shared → Prop} (hu : X.A.units + 64 < cLine) (I : L2.Inv X pins σ H s) (sm : Same F H) (ra : RelV v a) (rb : RelV w b) (dx : Dv X.K F H v x) (dy : Dv X.K F H w y) (e : cmpX x y = some k)
    (hop : (op = .Eq ∧ r = k) ∨ (op = .NotEq ∧ r = !k)) (q : Q (.bool r) s) : wpAny (model X.prog X.w) X.A (compareOp op a b) Q X.xe s := by
  unfold cmpX at e
  split at e
  · split at e
    · cases e
    · rename_i hne
      cases e
      obtain ⟨p1, vs, rfl, h1, k1⟩ := dx
      obtain ⟨p2, ws, rfl, h2, k2⟩ := dy
      cases ra
      cases rb
      exact cmp_lists hu I h1 h2 (by rw [k1.length, k2.length]; exact hne) hop q
  · rename_i xs0
    cases e
    obtain ⟨p1, vs, rfl, h1, k1⟩ := dx
    obtain ⟨p2, ws, rfl, h2, k2⟩ := dy
    cases k2
    cases ra
    cases rb
    have ev : vs.isEmpty = xs0.isEmpty := by
      cases k1
      · exact rfl
      · exact rfl
    exact cmp_tup0 hu I (same_t sm h1) (same_t sm h2) (by rw [ev]; exact hop) q
  · cases e
    cases (show v = _ from dx)
    cases (show w = _ from dy)
    obtain ⟨t1, rfl⟩ := ra
    obtain ⟨t2, rfl⟩ := rb
    rcases hop with ⟨rfl, rfl⟩ | ⟨rfl, rfl⟩
    · exact SeqAt.RcAt.int_int _ _ _ _ _ _ _ Q q
    · exact SeqAt.RcNeAt.int_int _ _ _ _ _ _ _ Q q
  · cases e
    cases (show v = _ from dx)
    cases (show w = _ from dy)
    obtain ⟨t1, rfl⟩ := ra
    obtain ⟨t2, rfl⟩ := rb
    rcases hop with ⟨rfl, rfl⟩ | ⟨rfl, rfl⟩
    · exact SeqAt.RcAt.str_str _ _ _ _ _ _ _ Q q
    · exact SeqAt.RcNeAt.str_str _ _ _ _ _ _ _ Q q
  · cases e
theorem op_eqDD (hu : X.A.units + 64 < cLine) : OpR X (compareOp .Eq) (rD X.K eqD) := by
  rintro pins s σ H v w a b Q I ra rb ⟨F, x, y, z, sm, dx, dy, e, q⟩
  unfold eqD at e
  split at e
  · rename_i k ek
    cases e
    exact cmpX_run hu I sm ra rb dx dy ek (.inl ⟨rfl, rfl⟩) ⟨.bl k, H, I, rfl, q _ F H (Ext.refl sm) (.bl _)⟩
  · split at e
    · rename_i hz
      cases e
      exact op_eqD hu pins s σ H _ _ a b Q I ra rb ⟨x, y, dx.dp sm (SeqAt.canLay_of_shaped hz.1), dy.dp sm (SeqAt.canLay_of_shaped hz.2), hz.1, hz.2, q _ F H (Ext.refl sm) (.bl _)⟩
    · cases e
theorem op_neDD (hu : X.A.units + 64 < cLine) : OpR X (compareOp .NotEq) (rD X.K neD) := by
  rintro pins s σ H v w a b Q I ra rb ⟨F, x, y, z, sm, dx, dy, e, q⟩
  unfold neD at e
  split at e
  · rename_i k ek
    cases e
    exact cmpX_run hu I sm ra rb dx dy ek (.inr ⟨rfl, rfl⟩) ⟨.bl (!k), H, I, rfl, q _ F H (Ext.refl sm) (.bl _)⟩
  · split at e
    · rename_i hz
      cases e
      exact op_neD hu pins s σ H _ _ a b Q I ra rb ⟨x, y, dx.dp sm (SeqAt.canLay_of_shaped hz.1), dy.dp sm (SeqAt.canLay_of_shaped hz.2), hz.1, hz.2, q _ F H (Ext.refl sm) (.bl _)⟩
    · cases e
theorem dv_non {K : PySem.W.Frag} {F H : Hp} {v : V} {d : PyData} (h : Dv K F H v d) : decide (v = V.non) = isN d := by
  cases d with
  | none => cases (show v = _ from h); rfl
  | bool b => cases (show v = _ from h); rfl
  | int i => cases (show v = _ from h); rfl
  | str x => cases (show v = _ from h); rfl
  | list ds => obtain ⟨a, vs, rfl, h1, k⟩ := h; rfl
  | tuple ds => obtain ⟨a, vs, rfl, h1, k⟩ := h; rfl
  | dict es => obtain ⟨a, vs, rfl, h1, k⟩ := h; rfl
theorem op_isND : OpR X (compareOp .Is) (rD X.K isND) := by
  rintro pins s σ H v w a b Q I ra rb ⟨F, x, y, z, sm, dx, dy, e, q⟩
  unfold isND at e
  split at e
  · cases e
    exact op_isN pins s σ H _ _ a b Q I ra rb ⟨dy, q _ F H (Ext.refl sm) (by rw [dv_non dx]; exact .bl _)⟩
  · cases e
theorem op_isNotND : OpR X (compareOp .IsNot) (rD X.K isNotND) := by
  rintro pins s σ H v w a b Q I ra rb ⟨F, x, y, z, sm, dx, dy, e, q⟩
  unfold isNotND at e
  split at e
  · cases e
    refine op_notN pins s σ H _ _ a b Q I ra rb ⟨dy, q _ F H (Ext.refl sm) ?_⟩
    rw [dv_non dx]
    exact .bl _
  · cases e
end
end Mi
/-! Chains of comparisons, items, slices, built-in functions on data. -/
namespace Mi
open PySem L2

section
variable {Γ : Gm} {X : Cx} {a b c : Expr} {fa fb fc : ME Γ.T} {pos : Pos}
def mChain {T : Type} (g1 g2 : PyData → PyData → Option PyData) (fa fb fc : ME T) : ME T := fun ρ t => do
  let (r1, t1) ← fa ρ t
  let (r2, t2) ← fb ρ t1
  let x ← rd ρ r1
  let y ← rd ρ r2
  match g1 x y with
  | some (.bool true) => do
    let (r3, t3) ← fc ρ t2
    let w ← rd ρ r3
    let z ← g2 y w
    pure (.fro z, t3)
  | some (.bool false) => some (.fro (.bool false), t2)
  | _ => none
theorem w_chain {g1 g2 : PyData → PyData → Option PyData} (σ : L2.St) (H : Hp) (Q : VK) : den Γ (mChain g1 g2 fa fb fc) σ H Q → tChain (rD Γ.K g1) (rD Γ.K g2) (den Γ fa) (den Γ fb) (den Γ fc) σ H Q := by
  rintro ⟨F, ρ, t, r, t', R, e, q⟩
  obtain ⟨⟨r1, t1⟩, e1, e⟩ := bind_some e
  obtain ⟨⟨r2, t2⟩, e2, e⟩ := bind_some e
  obtain ⟨x, ex, e⟩ := bind_some e
  obtain ⟨y, ey, e⟩ := bind_some e
  refine ⟨F, ρ, t, _, _, R, e1, fun v F1 H1 R1 x1 k1 => ⟨F1, ρ, _, _, _, R1, e2, fun w F2 H2 R2 x2 k2 => ?_⟩⟩
  dsimp only at e
  split at e
  · rename_i eg
    obtain ⟨⟨r3, t3⟩, e3, e⟩ := bind_some e
    obtain ⟨w3, ew, e⟩ := bind_some e
    obtain ⟨z, ez, e⟩ := bind_some e
    cases e
    refine ⟨F2, x, y, _, R2.ex, R2.read (k1.mono x2.f) ex, R2.read k2 ey, eg, fun u F3 H3 x3 k3 => ?_⟩
    cases k3
    have R3 := R2.ext0 x3
    refine ⟨true, rfl, iteT ⟨F3, ρ, _, _, _, R3, e3, fun w4 F4 H4 R4 x4 k4 => ?_⟩⟩
    exact ⟨F4, y, w3, z, R4.ex, R4.read (k2.mono (x3.f.trans x4.f)) ey, R4.read k4 ew, ez, fun u F5 H5 x5 k5 => q u F5 H5 (R4.ext0 x5) ((((x1.then x2 R2).then x3.wide R3).then x4 R4).then x5.wide (R4.ext0 x5)) k5⟩
  · rename_i eg
    cases e
    refine ⟨F2, x, y, _, R2.ex, R2.read (k1.mono x2.f) ex, R2.read k2 ey, eg, fun u F3 H3 x3 k3 => ?_⟩
    cases k3
    have R3 := R2.ext0 x3
    exact ⟨false, rfl, iteF (q _ F3 H3 R3 ((x1.then x2 R2).then x3.wide R3) (.bl false))⟩
  · cases e
theorem pe_chainD {op op' : CmpOp} {g1 g2 : PyData → PyData → Option PyData} (ho : OpR X (compareOp op) (rD Γ.K g1)) (ho' : OpR X (compareOp op') (rD Γ.K g2)) (ha : PE X a (den Γ fa)) (hb : PE X b (den Γ fb)) (hc : PE X c (den Γ fc))
    (hm : lastMarks [op, op'] [b, c] = false := by with_unfolding_all rfl) : PE X (.Compare a [op, op'] [b, c] pos) (den Γ (mChain g1 g2 fa fb fc)) := pe_w (pe_chain ho ho' ha hb hc hm) w_chain
theorem pt_chainD {op op' : CmpOp} {g1 g2 : PyData → PyData → Option PyData} (ho : OpR X (compareOp op) (rD Γ.K g1)) (ho' : OpR X (compareOp op') (rD Γ.K g2)) (ha : PE X a (den Γ fa)) (hb : PE X b (den Γ fb)) (hc : PE X c (den Γ fc))
    (hm : lastMarks [op, op'] [b, c] = false := by with_unfolding_all rfl) : PT X (.Compare a [op, op'] [b, c] pos) (denT Γ (mTest (mChain g1 g2 fa fb fc))) := pt_w (pt_chain ho ho' ha hb hc hm) fun σ H Q => by
  rintro ⟨F, ρ, t, r, t', R, e, q⟩
  unfold mTest at e
  split at e
  · rename_i b t1 e1
    cases e
    refine w_chain σ H _ ⟨F, ρ, t, _, _, R, e1, fun v F1 H1 R1 x1 k1 => ?_⟩
    cases (show Dq Γ.K F1 v (.bool _) from k1)
    exact ⟨_, rfl, q F1 H1 R1 x1⟩
  · cases e

/-! ### items -/
def keyD : PyData → Option Key
  | .int i => some (.inl i)
  | .str x => some (.inr x)
  | _ => none
def dgetK : List (PyData × PyData) → Key → Option PyData
  | [], _ => none
  | (a, d) :: r, k => if keyD a = some k then some d else dgetK r k
theorem keyD_k (k : Key) : keyD (kD k) = some k := by cases k <;> rfl
theorem dgetK_ok {K : PySem.W.Frag} {F : Hp} {k : Key} {d : PyData} : ∀ {kvs : List (Key × V)} {es : List (PyData × PyData)}, DqK K F kvs es → dgetK es k = some d → ∃ v, valV kvs k = some v ∧ Dq K F v d
  | _, _, .nil, e => by cases e
  | (k', v) :: kvs, _, .cons h t, e => by
    unfold dgetK at e
    rw [keyD_k] at e
    split at e
    · rename_i hk
      cases hk
      cases e
      exact ⟨v, valV_pos rfl, h⟩
    · rename_i hk
      obtain ⟨w, h1, h2⟩ := dgetK_ok t e
      exact ⟨w, by rw [valV_neg (fun z => hk (by rw [show k' = k from z]))]; exact h1, h2⟩
def ixD : PyData → PyData → Option PyData
  | .list xs, .int i => atI xs i
  | .tuple xs, .int i => atI xs i
  | .str z, .int i => if z.length ≤ sizeLine then (atI z.cps.toList i).map fun c => .str ⟨#[c]⟩ else none
  | .dict es, .str k => dgetK es (.inr k)
  | .dict es, .int k => dgetK es (.inl k)
  | _, _ => none
theorem at_dq {K : PySem.W.Frag} {F : Hp} {vs : List V} {ds : List PyData} {i : Int} {d : PyData} (k : DqA K F vs ds) (h : atI ds i = some d) : ∃ v, atI vs i = some v ∧ Dq K F v d := by
  unfold atI at h ⊢
  rw [k.length]
  cases e : ixN ds.length i with
  | none => rw [e] at h; cases h
  | some j =>
    rw [e] at h
    exact k.get h
theorem ix_D (hu : X.A.units + 1 < cLine) : IxR X (rD X.K ixD) := by
  rintro ve se pins s σ H v w a b Q I ra rb ⟨F, x, y, z, sm, dx, dy, e, q⟩ hs
  unfold ixD at e
  split at e
  · obtain ⟨l, vs, rfl, h1, k1⟩ := dx
    obtain ⟨u, hu, dq⟩ := at_dq k1 e
    exact ix_list ve se pins s σ H _ _ a b Q I ra rb ⟨l, vs, _, u, rfl, dy, .of h1, hu, q _ F H (Ext.refl sm) dq⟩ hs
  · obtain ⟨l, vs, rfl, h1, k1⟩ := dx
    obtain ⟨u, hu, dq⟩ := at_dq k1 e
    exact ix_tup ve se pins s σ H _ _ a b Q I ra rb ⟨l, vs, _, u, rfl, dy, same_t sm h1, hu, q _ F H (Ext.refl sm) dq⟩ hs
  · split at e
    · rename_i hz
      cases e2 : atI _ _ with
      | none => rw [e2] at e; cases e
      | some c =>
        rw [e2] at e
        cases e
        exact ix_str ve se pins s σ H _ _ a b Q I ra rb ⟨_, _, c, dx, dy, hz, e2, q _ F H (Ext.refl sm) (.str _)⟩ hs
    · cases e
  · obtain ⟨l, kvs, rfl, h1, k1⟩ := dx
    obtain ⟨x, hw, kw⟩ := dgetK_ok k1 e
    cases (show w = V.str _ from dy)
    cases (show a = Value.ref l from ra)
    have g : DGet H l (kV (.inr _)) (some x) := .inl ⟨kvs, _, .inl h1, rfl, hw.symm⟩
    exact PyProof.Rows.tail_any (dict_typeIs I g) PySem.F.slot_dict_getitem.lookup (d_getItem hu I g rb fun w' s3 I3 rw' => ⟨x, H, I3, rw', q _ F H (Ext.refl sm) kw⟩) hs
  · obtain ⟨l, kvs, rfl, h1, k1⟩ := dx
    obtain ⟨x, hw, kw⟩ := dgetK_ok k1 e
    cases (show w = V.int _ from dy)
    cases (show a = Value.ref l from ra)
    have g : DGet H l (kV (.inl _)) (some x) := .inl ⟨kvs, _, .inl h1, rfl, hw.symm⟩
    exact PyProof.Rows.tail_any (dict_typeIs I g) PySem.F.slot_dict_getitem.lookup (d_getItem hu I g rb fun w' s3 I3 rw' => ⟨x, H, I3, rw', q _ F H (Ext.refl sm) kw⟩) hs
  · cases e
theorem pe_ixD {g : PyData → PyData → Option PyData} (hr : IxR X (rD Γ.K g)) (ha : PE X a (den Γ fa)) (hb : PE X b (den Γ fb)) (hs : PlainIx b) : PE X (.Subscript a b pos) (den Γ (mBin g fa fb)) := pe_w (pe_ix hr ha hb hs) w_op

/-! ### slices -/
def denO (Γ : Gm) (f : Env → Γ.T → Option (Option Int × Γ.T)) : TO := fun σ H Q => ∃ F ρ t o t', Rep Γ F H σ ρ t ∧ f ρ t = some (o, t') ∧
  ∀ F' H', Rep Γ F' H' σ ρ t' → Ext Γ.S F H F' H' → Q o H'
def mNoP {T : Type} : Env → T → Option (Option Int × T) := fun _ t => some (none, t)
def mPart {T : Type} (f : ME T) : Env → T → Option (Option Int × T) := fun ρ t => match f ρ t with
  | some (.fro (.int i), t') => some (some i, t')
  | _ => none
theorem po_w {e : Option Expr} {t t' : TO} (h : PO X e t) (w : ∀ σ H Q, t' σ H Q → t σ H Q) : PO X e t' := ⟨fun pins s σ H Q I q => h.run pins s σ H Q I (w σ H Q q)⟩
theorem po_noneD : PO X none (denO Γ mNoP) := po_w po_none fun σ H Q => by
  rintro ⟨F, ρ, t, r, t', R, e, q⟩
  cases e
  exact q F H R (Ext.refl R.ex)
theorem po_someD (h : PE X a (den Γ fa)) : PO X (some a) (denO Γ (mPart fa)) := po_w (po_some h) fun σ H Q => by
  rintro ⟨F, ρ, t, r, t', R, e, q⟩
  unfold mPart at e
  split at e
  · rename_i i t1 e1
    cases e
    refine ⟨F, ρ, t, _, _, R, e1, fun v F1 H1 R1 x1 k1 => ?_⟩
    cases (show Dq Γ.K F1 v (.int _) from k1)
    exact ⟨_, rfl, q F1 H1 R1 x1⟩
  · cases e
def cutL {α : Type} (xs : List α) (lo hi : Option Int) : List α := (xs.drop (HT.sIx xs.length 0 lo)).take (HT.sIx xs.length xs.length hi - HT.sIx xs.length 0 lo)
theorem DqA.cut {K : PySem.W.Frag} {F : Hp} {vs : List V} {ds : List PyData} (k : DqA K F vs ds) (lo hi : Option Int) : DqA K F (cutV vs lo hi) (cutL ds lo hi) := by
  unfold cutV cutL
  rw [k.length]
  exact (k.drop _).take _
def sliceD (d : PyData) (lo hi : Option Int) : Option PyData := match d with
  | .list xs => some (.list (cutL xs lo hi))
  | .tuple xs => some (.tuple (cutL xs lo hi))
  | .str z => if z.length ≤ sizeLine then some (.str (cutS z lo hi)) else none
  | _ => none
def rSlD (K : PySem.W.Frag) : V → Option Int → Option Int → Hp → VK → Prop := fun v lo hi H Q => ∃ F x z, Same F H ∧ Dv K F H v x ∧ sliceD x lo hi = some z ∧ ∀ u F' H', Ext [] F H F' H' → Dq K F' u z → Q u H'
theorem sl_D : SlR X (rSlD X.K) := by
  rintro pins s σ H v a vl vu lo hi sl Q I ra hs pl pu ⟨F, x, z, sm, dx, e, q⟩
  unfold sliceD at e
  split at e
  · cases e
    obtain ⟨l, vs, rfl, h1, k1⟩ := dx
    refine sl_list pins s σ H _ a vl vu lo hi sl Q I ra hs pl pu ⟨l, vs, rfl, .of h1, fun p hp => ?_⟩
    have x2 : Ext [] F H (upd F p (.lst (cutV vs lo hi))) (upd H p (.lst (cutV vs lo hi))) := Ext.keep sm hp
    exact q _ _ _ x2 (.lst upd_same ((k1.cut lo hi).mono x2.f))
  · cases e
    obtain ⟨l, vs, rfl, h1, k1⟩ := dx
    refine sl_tupA pins s σ H _ a vl vu lo hi sl Q I ra hs pl pu ⟨l, vs, rfl, same_t sm h1, fun hw => ?_, fun _ p hp => ?_⟩
    · have ec : cutV vs lo hi = vs := by
        unfold cutV
        rw [hw.1, hw.2]
        simp
      have kc := k1.cut lo hi
      rw [ec] at kc
      exact q _ F H (Ext.refl sm) (.tup h1 kc)
    · have x2 : Ext [] F H (upd F p (.tup (cutV vs lo hi))) (upd H p (.tup (cutV vs lo hi))) := Ext.keep sm hp
      exact q _ _ _ x2 (.tup (.of upd_same) ((k1.cut lo hi).mono x2.f))
  · split at e
    · rename_i hz
      cases e
      exact sl_str pins s σ H _ a vl vu lo hi sl Q I ra hs pl pu ⟨_, dx, hz, q _ F H (Ext.refl sm) (.str _)⟩
    · cases e
  · cases e
def mSl {T : Type} (f : ME T) (l h : Env → T → Option (Option Int × T)) : ME T := fun ρ t => do
  let (r1, t1) ← f ρ t
  let (lo, t2) ← l ρ t1
  let (hi, t3) ← h ρ t2
  let x ← rd ρ r1
  let z ← sliceD x lo hi
  pure (.fro z, t3)
theorem pe_slD {lo hi : Option Expr} {fl fh : Env → Γ.T → Option (Option Int × Γ.T)} {p2 : Pos} (hs : SlR X (rSlD Γ.K)) (ha : PE X a (den Γ fa)) (hl : PO X lo (denO Γ fl)) (hh : PO X hi (denO Γ fh)) : PE X (.Subscript a (.Slice lo hi none p2) pos) (den Γ (mSl fa fl fh)) := pe_w (pe_slice hs ha hl hh) fun σ H Q => by
  rintro ⟨F, ρ, t, r, t', R, e, q⟩
  obtain ⟨⟨r1, t1⟩, e1, e⟩ := bind_some e
  obtain ⟨⟨o1, t2⟩, e2, e⟩ := bind_some e
  obtain ⟨⟨o2, t3⟩, e3, e⟩ := bind_some e
  obtain ⟨x, ex, e⟩ := bind_some e
  obtain ⟨z, ez, e⟩ := bind_some e
  cases e
  refine ⟨F, ρ, t, _, _, R, e1, fun v F1 H1 R1 x1 k1 => ⟨F1, ρ, _, _, _, R1, e2, fun F2 H2 R2 x2 => ⟨F2, ρ, _, _, _, R2, e3, fun F3 H3 R3 x3 => ?_⟩⟩⟩
  exact ⟨F3, x, z, R3.ex, R3.read ((k1.mono x2.f).mono x3.f) ex, ez, fun u F4 H4 x4 k4 => q u F4 H4 (R3.ext0 x4) ((((x1.then x2 R2).then x3 R3).then x4.wide (R3.ext0 x4))) k4⟩

/-! ### built-in functions -/
inductive DvA (K : PySem.W.Frag) (F H : Hp) : List V → List PyData → Prop
  | nil : DvA K F H [] []
  | cons {v : V} {vs : List V} {d : PyData} {ds : List PyData} : Dv K F H v d → DvA K F H vs ds → DvA K F H (v :: vs) (d :: ds)
def rC (K : PySem.W.Frag) (g : List PyData → Option PyData) : List V → Hp → VK → Prop := fun vs H Q => ∃ F xs z, Same F H ∧ DvA K F H vs xs ∧ g xs = some z ∧ ∀ u F' H', Ext [] F H F' H' → Dq K F' u z → Q u H'
def mCall {T : Type} (g : List PyData → Option PyData) (fs : Env → T → Option (List Rv × T)) : ME T := fun ρ t => do
  let (rs, t1) ← fs ρ t
  let xs ← rds ρ rs
  let z ← g xs
  pure (.fro z, t1)
theorem reads {F H : Hp} {σ : L2.St} {ρ : Env} {t : Γ.T} (R : Rep Γ F H σ ρ t) : ∀ {vs : List V} {rs : List Rv} {xs : List PyData}, RvsOk Γ F σ vs rs → rds ρ rs = some xs → DvA Γ.K F H vs xs
  | _, _, _, .nil, e => by cases e; exact .nil
  | _, _, _, .cons h k, e => by
    obtain ⟨x, ex, e⟩ := bind_some e
    obtain ⟨xs, exs, e⟩ := bind_some e
    cases e
    exact .cons (R.read h ex) (reads R k exs)
variable {es : List Expr} {ga : Env → Γ.T → Option (List Rv × Γ.T)} {x : Str} {p : Pos}
theorem w_call {g : List PyData → Option PyData} (σ : L2.St) (H : Hp) (Q : VK) : den Γ (mCall g ga) σ H Q → tCB (rC Γ.K g) (denA Γ ga) σ H Q := by
  rintro ⟨F, ρ, t, r, t', R, e, q⟩
  obtain ⟨⟨rs, t1⟩, e1, e⟩ := bind_some e
  obtain ⟨xs, exs, e⟩ := bind_some e
  obtain ⟨z, ez, e⟩ := bind_some e
  cases e
  refine ⟨F, ρ, t, _, _, R, e1, fun vs F1 H1 R1 x1 k1 => ?_⟩
  exact ⟨F1, xs, z, R1.ex, reads R1 k1 exs, ez, fun u F2 H2 x2 k2 => q u F2 H2 (R1.ext0 x2) (x1.then x2.wide (R1.ext0 x2)) k2⟩
theorem pe_bD {id : String} {g : List PyData → Option PyData} (hc : CallR X (.builtin id) (rC Γ.K g)) (hg : Gl X x) (hm : X.mg x = none) (hv : bootBuiltins x = some (.builtin id)) (ha : PA X (a :: es) (denA Γ ga)) (hn : x ≠ "__name__" := by decide) (hdb : (x == ("__debug__" : Str)) = false := by decide)
    (he : starEach (a :: es) X.env = (false, eval a X.env) :: starEach es X.env := by rfl) (hpl : (backTo pos (starEach es X.env)).any (·.1) = false := by rfl) : PE X (.Call (.Name x p) (a :: es) [] pos) (den Γ (mCall g ga)) := pe_w (pe_callB hc hg hm hv ha hn hdb he hpl) w_call
theorem pe_tyD {ty : String} {g : List PyData → Option PyData} (hc : CallR X (.type ty) (rC Γ.K g)) (hg : Gl X x) (hm : X.mg x = none) (hv : bootBuiltins x = some (.type ty)) (ha : PA X (a :: es) (denA Γ ga)) (hn : x ≠ "__name__" := by decide) (hdb : (x == ("__debug__" : Str)) = false := by decide)
    (he : starEach (a :: es) X.env = (false, eval a X.env) :: starEach es X.env := by rfl) (hpl : (backTo pos (starEach es X.env)).any (·.1) = false := by rfl) : PE X (.Call (.Name x p) (a :: es) [] pos) (den Γ (mCall g ga)) := pe_w (pe_callTy hc hg hm hv ha hn hdb he hpl) w_call

def lenD : List PyData → Option PyData
  | [.list xs] => some (.int xs.length)
  | [.tuple xs] => some (.int xs.length)
  | [.str z] => if z.length ≤ sizeLine then some (.int z.length) else none
  | [.dict es] => some (.int es.length)
  | _ => none
def absD : List PyData → Option PyData
  | [.int i] => some (.int (if i < 0 then -i else i))
  | _ => none
def maxD : List PyData → Option PyData
  | [.int i, .int j] => some (.int (if j > i then j else i))
  | _ => none
def minD : List PyData → Option PyData
  | [.int i, .int j] => some (.int (if j < i then j else i))
  | _ => none
def intD : List PyData → Option PyData
  | [.int i] => some (.int i)
  | [.bool b] => some (.int (if b then 1 else 0))
  | _ => none
def strD : List PyData → Option PyData
  | [.int i] => if i.natAbs.log2 < 1920 then some (.str (toString i)) else none
  | _ => none
def tupleD : List PyData → Option PyData
  | [.list xs] => some (.tuple xs)
  | [.tuple xs] => some (.tuple xs)
  | _ => none
def listD : List PyData → Option PyData
  | [.list xs] => some (.list xs)
  | [.tuple xs] => some (.list xs)
  | _ => none
def intsOf : List PyData → Option (List Int)
  | [] => some []
  | .int i :: r => (intsOf r).map (i :: ·)
  | _ => none
def sumD : List PyData → Option PyData
  | [.list xs] => (intsOf xs).map fun ns => .int ns.sum
  | _ => none
theorem f1 {K : PySem.W.Frag} {F H : Hp} {l : List V} {b : PyData} (h : DvA K F H l [b]) : ∃ a, l = [a] ∧ Dv K F H a b := by
  cases h with
  | cons h t => cases t; exact ⟨_, rfl, h⟩
theorem f2 {K : PySem.W.Frag} {F H : Hp} {l : List V} {b c : PyData} (h : DvA K F H l [b, c]) : ∃ a d, l = [a, d] ∧ Dv K F H a b ∧ Dv K F H d c := by
  cases h with
  | cons h t => obtain ⟨d, rfl, k⟩ := f1 t; exact ⟨_, _, rfl, h, k⟩
theorem call_lenDD : CallR X (.builtin "len") (rC X.K lenD) := by
  rintro pins s σ H vs us Q I r ⟨F, xs, z, sm, dx, e, q⟩
  unfold lenD at e
  split at e
  · cases e
    obtain ⟨v, rfl, l, ws, rfl, h1, k1⟩ := f1 dx
    exact call_len pins s σ H _ us Q I r ⟨_, _, rfl, .inl ⟨ws, .of h1, k1.length.symm⟩, q _ F H (Ext.refl sm) (.int _)⟩
  · cases e
    obtain ⟨v, rfl, l, ws, rfl, h1, k1⟩ := f1 dx
    exact call_len pins s σ H _ us Q I r ⟨_, _, rfl, .inr ⟨ws, same_t sm h1, k1.length.symm⟩, q _ F H (Ext.refl sm) (.int _)⟩
  · split at e
    · rename_i hz
      cases e
      obtain ⟨v, rfl, h⟩ := f1 dx
      cases (show v = _ from h)
      exact call_len pins s σ H _ us Q I r ⟨_, _, rfl, ⟨hz, rfl⟩, q _ F H (Ext.refl sm) (.int _)⟩
    · cases e
  · cases e
    obtain ⟨v, rfl, l, ws, rfl, h1, k1⟩ := f1 dx
    exact call_lenD pins s σ H _ us Q I r ⟨l, ws, rfl, h1, by rw [k1.length]; exact q _ F H (Ext.refl sm) (.int _)⟩
  · cases e
theorem call_absDD : CallR X (.builtin "abs") (rC X.K absD) := by
  rintro pins s σ H vs us Q I r ⟨F, xs, z, sm, dx, e, q⟩
  unfold absD at e
  split at e
  · cases e
    obtain ⟨v, rfl, h⟩ := f1 dx
    cases (show v = _ from h)
    exact call_abs pins s σ H _ us Q I r ⟨_, rfl, q _ F H (Ext.refl sm) (.int _)⟩
  · cases e
theorem call_maxDD (hc : X.calm = true) : CallR X (.builtin "max") (rC X.K maxD) := by
  rintro pins s σ H vs us Q I r ⟨F, xs, z, sm, dx, e, q⟩
  unfold maxD at e
  split at e
  · cases e
    obtain ⟨v, w, rfl, h, h2⟩ := f2 dx
    cases (show v = _ from h)
    cases (show w = _ from h2)
    exact call_max2 hc pins s σ H _ us Q I r ⟨_, _, rfl, q _ F H (Ext.refl sm) (.int _)⟩
  · cases e
theorem call_minDD (hc : X.calm = true) : CallR X (.builtin "min") (rC X.K minD) := by
  rintro pins s σ H vs us Q I r ⟨F, xs, z, sm, dx, e, q⟩
  unfold minD at e
  split at e
  · cases e
    obtain ⟨v, w, rfl, h, h2⟩ := f2 dx
    cases (show v = _ from h)
    cases (show w = _ from h2)
    exact call_min2 hc pins s σ H _ us Q I r ⟨_, _, rfl, q _ F H (Ext.refl sm) (.int _)⟩
  · cases e
theorem call_intDD : CallR X (.type "int") (rC X.K intD) := by
  rintro pins s σ H vs us Q I r ⟨F, xs, z, sm, dx, e, q⟩
  unfold intD at e
  split at e
  · cases e
    obtain ⟨v, rfl, h⟩ := f1 dx
    cases (show v = _ from h)
    exact call_int1 pins s σ H _ us Q I r (.inl ⟨_, rfl, q _ F H (Ext.refl sm) (.int _)⟩)
  · cases e
    obtain ⟨v, rfl, h⟩ := f1 dx
    cases (show v = _ from h)
    exact call_int1 pins s σ H _ us Q I r (.inr ⟨_, rfl, q _ F H (Ext.refl sm) (.int _)⟩)
  · cases e
theorem call_strDD : CallR X (.type "str") (rC X.K strD) := by
  rintro pins s σ H vs us Q I r ⟨F, xs, z, sm, dx, e, q⟩
  unfold strD at e
  split at e
  · split at e
    · rename_i hz
      cases e
      obtain ⟨v, rfl, h⟩ := f1 dx
      cases (show v = _ from h)
      exact call_str_int pins s σ H _ us Q I r ⟨_, rfl, hz, q _ F H (Ext.refl sm) (.str _)⟩
    · cases e
  · cases e
theorem call_tupleDD : CallR X (.type "tuple") (rC X.K tupleD) := by
  rintro pins s σ H vs us Q I r ⟨F, xs, z, sm, dx, e, q⟩
  unfold tupleD at e
  split at e
  · cases e
    obtain ⟨v, rfl, l, ws, rfl, h1, k1⟩ := f1 dx
    refine call_tuple_of pins s σ H _ us Q I r ⟨l, ws, rfl, .inl ⟨.of h1, fun p hp => ?_⟩⟩
    have x2 : Ext [] F H (upd F p (.tup ws)) (upd H p (.tup ws)) := Ext.keep sm hp
    exact q _ _ _ x2 (.tup (.of upd_same) (k1.mono x2.f))
  · cases e
    obtain ⟨v, rfl, l, ws, rfl, h1, k1⟩ := f1 dx
    exact call_tuple_of pins s σ H _ us Q I r ⟨l, ws, rfl, .inr ⟨same_t sm h1, q _ F H (Ext.refl sm) (.tup h1 k1)⟩⟩
  · cases e
theorem call_listDD : CallR X (.type "list") (rC X.K listD) := by
  rintro pins s σ H vs us Q I r ⟨F, xs, z, sm, dx, e, q⟩
  unfold listD at e
  split at e
  · cases e
    obtain ⟨v, rfl, l, ws, rfl, h1, k1⟩ := f1 dx
    refine call_list_of pins s σ H _ us Q I r ⟨l, ws, rfl, .inl (.of h1), fun p hp => ?_⟩
    have x2 : Ext [] F H (upd F p (.lst ws)) (upd H p (.lst ws)) := Ext.keep sm hp
    exact q _ _ _ x2 (.lst upd_same (k1.mono x2.f))
  · cases e
    obtain ⟨v, rfl, l, ws, rfl, h1, k1⟩ := f1 dx
    refine call_list_of pins s σ H _ us Q I r ⟨l, ws, rfl, .inr (same_t sm h1), fun p hp => ?_⟩
    have x2 : Ext [] F H (upd F p (.lst ws)) (upd H p (.lst ws)) := Ext.keep sm hp
    exact q _ _ _ x2 (.lst upd_same (k1.mono x2.f))
  · cases e
theorem intsOf_dq {K : PySem.W.Frag} {F : Hp} : ∀ {vs : List V} {ds : List PyData} {ns : List Int}, DqA K F vs ds → intsOf ds = some ns → vs = ns.map V.int
  | _, _, _, .nil, e => by cases e; rfl
  | _, .int i :: r, ns, .cons h t, e => by
    unfold intsOf at e
    cases z : intsOf r with
    | none => rw [z] at e; cases e
    | some l =>
      rw [z] at e
      cases e
      cases h
      rw [intsOf_dq t z]
      rfl
  | _, .none :: _, _, .cons _ _, e => by cases e
  | _, .bool _ :: _, _, .cons _ _, e => by cases e
  | _, .str _ :: _, _, .cons _ _, e => by cases e
  | _, .list _ :: _, _, .cons _ _, e => by cases e
  | _, .tuple _ :: _, _, .cons _ _, e => by cases e
  | _, .dict _ :: _, _, .cons _ _, e => by cases e
theorem call_sumDD (hc : X.calm = true) : CallR X (.builtin "sum") (rC X.K sumD) := by
  rintro pins s σ H vs us Q I r ⟨F, xs, z, sm, dx, e, q⟩
  unfold sumD at e
  split at e
  · obtain ⟨v, rfl, l, ws, rfl, h1, k1⟩ := f1 dx
    cases z2 : intsOf _ with
    | none => rw [z2] at e; cases e
    | some ns =>
      rw [z2] at e
      cases e
      have ew := intsOf_dq k1 z2
      subst ew
      exact cr_sum hc pins s σ H _ us Q I r ⟨l, ns, rfl, .of h1, q _ F H (Ext.refl sm) (.int _)⟩
  · cases e

/-! ### isinstance -/
def tyN : PyData → String
  | .none => "NoneType"
  | .bool _ => "bool"
  | .int _ => "int"
  | .str _ => "str"
  | .list _ => "list"
  | .tuple _ => "tuple"
  | .dict _ => "dict"
def isTy (n : String) (d : PyData) : Bool := tyN d == n || (n == "int" && tyN d == "bool")
/-- the class's name answers as isTy says, for all data -/
def TyName (n : String) : Prop := ∀ d : PyData, kitB (tyN d) n = some (isTy n d)
theorem tyName_of {n : String} (h : (["NoneType", "bool", "int", "str", "list", "tuple", "dict"].all fun m => decide (kitB m n = some (m == n || (n == "int" && m == "bool")))) = true) : TyName n := fun d => by
  simp only [List.all_cons, List.all_nil, Bool.and_true, Bool.and_eq_true, decide_eq_true_eq] at h
  obtain ⟨h1, h2, h3, h4, h5, h6, h7⟩ := h
  cases d <;> assumption
theorem ty_int : TyName "int" := tyName_of (by decide +kernel)
theorem ty_bool : TyName "bool" := tyName_of (by decide +kernel)
theorem ty_str : TyName "str" := tyName_of (by decide +kernel)
theorem ty_list : TyName "list" := tyName_of (by decide +kernel)
theorem ty_tuple : TyName "tuple" := tyName_of (by decide +kernel)
theorem ty_dict : TyName "dict" := tyName_of (by decide +kernel)
theorem tyX_of {F H : Hp} {v : V} {d : PyData} (sm : Same F H) (h : Dv X.K F H v d) : TyX X.K H v (.type (tyN d)) := by
  cases d with
  | none => cases (show v = _ from h); exact .base .non
  | bool b => cases (show v = _ from h); exact .base (.bl b)
  | int i => cases (show v = _ from h); exact .base (.int i)
  | str x => cases (show v = _ from h); exact .base (.str x)
  | list ds => obtain ⟨a, vs, rfl, h1, k⟩ := h; exact .base (.lst h1)
  | tuple ds =>
    obtain ⟨a, vs, rfl, h1, k⟩ := h
    rcases h1 with (h1 | ⟨o, h1⟩) | ⟨o, its, n, h1, h2, _⟩
    · exact .base (.tup (sm _ _ h1))
    · exact .fTuple (sm _ _ h1)
    · exact .kTuple h1 h2
  | dict es => obtain ⟨a, vs, rfl, h1, k⟩ := h; exact .base (.dK h1)
/-- isinstance(x, T), T a built-in class by its name -/
def mIsi {T : Type} (n : String) (f : ME T) : ME T := fun ρ t => do
  let (r1, t1) ← f ρ t
  let x ← rd ρ r1
  pure (.fro (.bool (isTy n x)), t1)
theorem pe_isi {n : String} {x : Str} {u : Value} {p2 : Pos} (hn : TyName n) (hg : Gl X "isinstance") (hm : X.mg "isinstance" = none) (hv : bootBuiltins "isinstance" = some (.builtin "isinstance")) (ha : PE X a (den Γ fa))
    (hg2 : Gl X x) (hm2 : X.mg x = none) (hv2 : bootBuiltins x = some (.type n)) (hK : X.K = Γ.K) (hx : x ≠ "__name__" := by decide) (hdb : (x == ("__debug__" : Str)) = false := by decide)
    (hs : starEach [a, .Name x p2] X.env = (false, eval a X.env) :: starEach [.Name x p2] X.env := by rfl) (hs2 : starEach [.Name x p2] X.env = (false, eval (.Name x p2) X.env) :: starEach [] X.env := by rfl)
    (hpl : (backTo pos (starEach [.Name x p2] X.env)).any (·.1) = false := by rfl) : PE X (.Call (.Name "isinstance" p) [a, .Name x p2] [] pos) (den Γ (mIsi n fa)) := by
  refine pe_w (pe_callB call_isi hg hm hv (pa_cons ha (pa_cons (pe_bltn (v := .ty n) hg2 hm2 hv2 rfl hx hdb) pa_nil hs2) hs) (by decide) (by decide) hs hpl) fun σ H Q => ?_
  rintro ⟨F, ρ, t, r, t', R, e, q⟩
  obtain ⟨⟨r1, t1⟩, e1, e⟩ := bind_some e
  obtain ⟨x1, ex, e⟩ := bind_some e
  cases e
  refine ⟨F, ρ, t, _, _, R, e1, fun v F1 H1 R1 x2 k1 => ?_⟩
  have dx := R1.read k1 ex
  rw [← hK] at dx
  exact ⟨v, .ty n, _, _, _, rfl, .ty n, tyX_of R1.ex dx, kit_ty (hn x1), q _ F1 H1 R1 x2 (.bl _)⟩

/-! ### in -/
def flatP : PyData → Bool
  | .none => true
  | .bool _ => true
  | .int _ => true
  | .str _ => true
  | _ => false
def itemsOf : PyData → Option (List PyData)
  | .list xs => some xs
  | .tuple xs => some xs
  | _ => none
def inD (x y : PyData) : Option PyData := match itemsOf y with
  | some ys => if flatP x && ys.all flatP then some (.bool (ys.any fun d => PyData.eqv d x)) else none
  | none => none
def notInD (x y : PyData) : Option PyData := match itemsOf y with
  | some ys => if flatP x && ys.all flatP then some (.bool (!ys.any fun d => PyData.eqv d x)) else none
  | none => none
theorem flat_dq {K : PySem.W.Frag} {F : Hp} {v : V} {d : PyData} (h : Dq K F v d) (f : flatP d = true) : flatV v = true ∧ ∀ w e, Dq K F w e → flatP e = true → eqV v w = PyData.eqv d e := by
  cases h with
  | non => exact ⟨rfl, fun w e h g => by cases h <;> first | rfl | cases g⟩
  | bl b => exact ⟨rfl, fun w e h g => by cases h <;> first | rfl | cases g⟩
  | int i => exact ⟨rfl, fun w e h g => by cases h <;> first | rfl | cases g⟩
  | str x => exact ⟨rfl, fun w e h g => by cases h <;> first | rfl | cases g⟩
  | lst _ _ => cases f
  | tup _ _ => cases f
  | dct _ _ => cases f
theorem flat_in {K : PySem.W.Frag} {F : Hp} {v : V} {d : PyData} (h : Dq K F v d) (f : flatP d = true) : ∀ {ws : List V} {es : List PyData}, DqA K F ws es → es.all flatP = true → ws.all flatV = true ∧ inV v ws = es.any fun e => PyData.eqv e d
  | _, _, .nil, _ => ⟨rfl, rfl⟩
  | _, _, .cons g t, c => by
    rw [List.all_cons, Bool.and_eq_true] at c
    obtain ⟨i1, i2⟩ := flat_in h f t c.2
    obtain ⟨j1, j2⟩ := flat_dq g c.1
    refine ⟨by rw [List.all_cons, j1, i1]; rfl, ?_⟩
    unfold inV at i2 ⊢
    rw [List.any_cons, List.any_cons, i2, j2 _ _ h f]
theorem dv_flat {K : PySem.W.Frag} {F H : Hp} {v : V} {d : PyData} (h : Dv K F H v d) (f : flatP d = true) : Dq K F v d := by
  cases d with
  | none => cases (show v = _ from h); exact .non
  | bool b => cases (show v = _ from h); exact .bl b
  | int i => cases (show v = _ from h); exact .int i
  | str x => cases (show v = _ from h); exact .str x
  | list ds => cases f
  | tuple ds => cases f
  | dict es => cases f
theorem items_dv {K : PySem.W.Frag} {F H : Hp} {v : V} {d : PyData} {ys : List PyData} (sm : Same F H) (h : Dv K F H v d) (e : itemsOf d = some ys) : ∃ a ws, v = .ref a ∧ (SqL K H a ws ∨ SqT K H a ws) ∧ DqA K F ws ys := by
  unfold itemsOf at e
  split at e
  · cases e; obtain ⟨a, vs, rfl, h1, k⟩ := h; exact ⟨a, vs, rfl, .inl (.of h1), k⟩
  · cases e; obtain ⟨a, vs, rfl, h1, k⟩ := h; exact ⟨a, vs, rfl, .inr (same_t sm h1), k⟩
  · cases e
theorem op_inD : OpR X (compareOp .In) (rD X.K inD) := by
  rintro pins s σ H v w a b Q I ra rb ⟨F, x, y, z, sm, dx, dy, e, q⟩
  unfold inD at e
  split at e
  · rename_i ys ey
    split at e
    · rename_i hf
      rw [Bool.and_eq_true] at hf
      cases e
      obtain ⟨p, ws, rfl, h1, k⟩ := items_dv sm dy ey
      obtain ⟨i1, i2⟩ := flat_in (dv_flat dx hf.1) hf.1 k hf.2
      refine op_in_seq pins s σ H _ _ a b Q I ra rb ⟨p, ws, rfl, h1, (flat_dq (dv_flat dx hf.1) hf.1).1, i1, ?_⟩
      rw [i2]
      exact q _ F H (Ext.refl sm) (.bl _)
    · cases e
  · cases e
theorem op_notInD : OpR X (compareOp .NotIn) (rD X.K notInD) := by
  rintro pins s σ H v w a b Q I ra rb ⟨F, x, y, z, sm, dx, dy, e, q⟩
  unfold notInD at e
  split at e
  · rename_i ys ey
    split at e
    · rename_i hf
      rw [Bool.and_eq_true] at hf
      cases e
      obtain ⟨p, ws, rfl, h1, k⟩ := items_dv sm dy ey
      obtain ⟨i1, i2⟩ := flat_in (dv_flat dx hf.1) hf.1 k hf.2
      refine op_notIn_seq pins s σ H _ _ a b Q I ra rb ⟨p, ws, rfl, h1, (flat_dq (dv_flat dx hf.1) hf.1).1, i1, ?_⟩
      rw [i2]
      exact q _ F H (Ext.refl sm) (.bl _)
    · cases e
  · cases e
end
end Mi
/-! Mirrors of targets and statements. -/
namespace Mi
open PySem L2

/-! ### slots set -/
theorem get_set {α : Type} {l : List (Option α)} {i j : Nat} {x : Option α} {y : α} (h : (l.set i x)[j]? = some (some y)) : (i = j ∧ x = some y) ∨ (i ≠ j ∧ l[j]? = some (some y)) := by
  by_cases e : i = j
  · subst e
    rw [List.getElem?_set_self'] at h
    cases q : l[i]? with
    | none => rw [q] at h; cases h
    | some z => rw [q] at h; exact .inl ⟨rfl, Option.some.inj h⟩
  · rw [List.getElem?_set_ne e] at h
    exact .inr ⟨e, h⟩
theorem set_get {α β : Type} {l : List α} {k : List β} {i : Nat} {x : α} {y : β} (hl : l.length = k.length) (h : ∃ z, (l.set i x)[i]? = some z) : (k.set i y)[i]? = some y := by
  obtain ⟨z, h⟩ := h
  have hi : i < l.length := by
    by_cases q : i < l.length
    · exact q
    · rw [List.getElem?_eq_none (by rw [List.length_set]; omega)] at h; cases h
  rw [List.getElem?_set_self (by omega)]
/-- values with the slot's content they are to have; F, H now, H1 ahead of their making -/
inductive NsOk (Γ : Gm) (H1 F H : Hp) (σ : L2.St) (ρ : Env) : List V → List Val → Prop
  | nil : NsOk Γ H1 F H σ ρ [] []
  | fro {v : V} {d : PyData} {vs : List V} {ws : List Val} : Dq Γ.K F v d → NsOk Γ H1 F H σ ρ vs ws → NsOk Γ H1 F H σ ρ (v :: vs) (.fro d :: ws)
  | bor {v : V} {d : PyData} {vs : List V} {ws : List Val} : (Dq Γ.K F v d ∨ ∃ a o, v = .ref a ∧ Own Γ.K F H a d ∧ a ∉ Γ.S ∧ Γ.F0 a = none ∧ Γ.H0 a = some o) → NsOk Γ H1 F H σ ρ vs ws → NsOk Γ H1 F H σ ρ (v :: vs) (.bor d :: ws)
  | tray {k : Nat} {v : V} {vs : List V} {ws : List Val} : v = Γ.ta k → NsOk Γ H1 F H σ ρ vs ws → NsOk Γ H1 F H σ ρ (v :: vs) (.tray k :: ws)
  | own {a : Addr} {d : PyData} {vs : List V} {ws : List Val} : Fresh Γ H1 F H σ ρ a d → NsOk Γ H1 F H σ ρ vs ws → (∀ (j : Nat) (e : PyData), ws[j]? = some (.own e) → vs[j]? ≠ some (.ref a)) → NsOk Γ H1 F H σ ρ (.ref a :: vs) (.own d :: ws)
section
variable {Γ : Gm} {F H F' H' H1 : Hp} {σ : L2.St} {ρ : Env} {t t' : Γ.T}
/-- one slot -/
theorem Rep.put {i : Nat} {v : V} {w : Val} (R : Rep Γ F H σ ρ t) (hs : (∃ z, (ρ.set i (some w))[i]? = some z) → SlotOk Γ F H (σ.set i (some v)) i w)
    (hw : ∀ d, w = .own d → ∀ (j : Nat) (e : PyData), ρ[j]? = some (some (.own e)) → σ[j]? ≠ some (some v)) : Rep Γ F H (σ.set i (some v)) (ρ.set i (some w)) t := by
  refine { R.toFin with len := by rw [List.length_set, List.length_set]; exact R.len, slots := fun j x hx => ?_, sep := fun j k a d e hjk hj hk sj => ?_ }
  · rcases get_set hx with ⟨rfl, hw2⟩ | ⟨hne, hx2⟩
    · cases hw2
      exact hs ⟨_, hx⟩
    · have s := R.slots j x hx2
      cases x with
      | fro d => obtain ⟨u, e1, q⟩ := s; exact ⟨u, by rw [List.getElem?_set_ne hne]; exact e1, q⟩
      | own d => obtain ⟨u, e1, q⟩ := s; exact ⟨u, by rw [List.getElem?_set_ne hne]; exact e1, q⟩
      | bor d => obtain ⟨u, e1, q⟩ := s; exact ⟨u, by rw [List.getElem?_set_ne hne]; exact e1, q⟩
      | tray _ =>
        show (σ.set i (some v))[j]? = _
        rw [List.getElem?_set_ne hne]; exact s
  · intro sk
    rcases get_set hj with ⟨rfl, hj2⟩ | ⟨hj1, hj2⟩
    · have hw2 := Option.some.inj hj2
      rcases get_set hk with ⟨rfl, _⟩ | ⟨hk1, hk2⟩
      · exact hjk rfl
      · rcases get_set sj with ⟨_, z⟩ | ⟨z, _⟩
        · rcases get_set sk with ⟨z2, _⟩ | ⟨_, z2⟩
          · exact hk1 z2
          · cases z
            exact hw d hw2 k e hk2 z2
        · exact z rfl
    · rcases get_set hk with ⟨rfl, hk2⟩ | ⟨hk1, hk2⟩
      · have hw2 := Option.some.inj hk2
        rcases get_set sk with ⟨_, z⟩ | ⟨z, _⟩
        · rcases get_set sj with ⟨z2, _⟩ | ⟨_, z2⟩
          · exact hj1 z2
          · cases z
            exact hw e hw2 j d hj2 z2
        · exact z rfl
      · rcases get_set sj with ⟨z, _⟩ | ⟨_, z⟩
        · exact hj1 z
        · rcases get_set sk with ⟨z2, _⟩ | ⟨_, z2⟩
          · exact hk1 z2
          · exact R.sep j k a d e hjk hj2 hk2 z z2
theorem slot_at {i : Nat} {v : V} {w : Val} (R : Rep Γ F H σ ρ t) (h : ∃ z, (ρ.set i (some w))[i]? = some z) : (σ.set i (some v))[i]? = some (some v) := set_get R.len h
theorem Rep.setF {i : Nat} {v : V} {d : PyData} (R : Rep Γ F H σ ρ t) (k : Dq Γ.K F v d) : Rep Γ F H (σ.set i (some v)) (ρ.set i (some (.fro d))) t :=
  R.put (fun h => ⟨v, slot_at R h, k⟩) fun _ z => nomatch z
theorem NsOk.step {i : Nat} {v : V} {w : Val} {vs : List V} {ws : List Val} (R : Rep Γ F H σ ρ t) (n : NsOk Γ H1 F H σ ρ (v :: vs) (w :: ws)) :
    Rep Γ F H (σ.set i (some v)) (ρ.set i (some w)) t ∧ NsOk Γ H1 F H (σ.set i (some v)) (ρ.set i (some w)) vs ws := by
  have more : ∀ {vs : List V} {ws : List Val}, NsOk Γ H1 F H σ ρ vs ws → (∀ d, w = .own d → ∀ (j : Nat) (e : PyData), ws[j]? = some (.own e) → vs[j]? ≠ some v) → NsOk Γ H1 F H (σ.set i (some v)) (ρ.set i (some w)) vs ws := by
    intro vs ws h
    induction h with
    | nil => intro _; exact .nil
    | fro k t ih => intro hh; exact .fro k (ih fun d z j e q => hh d z (j + 1) e (by simpa using q))
    | bor k t ih => intro hh; exact .bor k (ih fun d z j e q => hh d z (j + 1) e (by simpa using q))
    | tray z0 t ih => intro hh; exact .tray z0 (ih fun d z j e q => hh d z (j + 1) e (by simpa using q))
    | own fr t sp ih =>
      intro hh
      refine .own ⟨fr.own, fr.new, fr.old, fr.nS, fun j e q1 q2 => ?_⟩ (ih fun d z j e q => hh d z (j + 1) e (by simpa using q)) sp
      rcases get_set q1 with ⟨rfl, q3⟩ | ⟨q3, q4⟩
      · rcases get_set q2 with ⟨_, q5⟩ | ⟨q5, _⟩
        · cases q5
          exact hh e (Option.some.inj q3) 0 _ (by simp; rfl) (by simp)
        · exact q5 rfl
      · rcases get_set q2 with ⟨q5, _⟩ | ⟨_, q5⟩
        · exact q3 q5
        · exact fr.nsl j e q4 q5
  cases n with
  | fro k t => exact ⟨R.setF k, more t (fun _ z => nomatch z)⟩
  | bor k t => exact ⟨R.put (fun h => ⟨v, slot_at R h, k⟩) (fun _ z => nomatch z), more t (fun _ z => nomatch z)⟩
  | tray z0 t => subst z0; exact ⟨R.put (fun h => slot_at R h) (fun _ z => nomatch z), more t (fun _ z => nomatch z)⟩
  | own fr t sp => exact ⟨R.put (fun h => ⟨_, slot_at R h, fr.own, fr.old, fr.nS⟩) fun d _ j e q1 => fr.nsl j e q1, more t fun d _ j e q => sp j e q⟩
theorem NsOk.ext {vs : List V} {ws : List Val} (R : Fin Γ F H t) (x : Ext Γ.S F H F' H') (n : NsOk Γ H1 F H σ ρ vs ws) : NsOk Γ H1 F' H' σ ρ vs ws := by
  induction n with
  | nil => exact .nil
  | fro k t ih => exact .fro (k.mono x.f) ih
  | bor k t ih =>
    refine .bor ?_ ih
    rcases k with k | ⟨a, o, e2, q, q3, q4, q5⟩
    · exact .inl (k.mono x.f)
    · obtain ⟨o', ho⟩ := q.there
      exact .inr ⟨a, o, e2, q.mono x.f (fun u hu => x.h a u q3 hu) (x.n a o' q.free ho), q3, q4, q5⟩
  | tray z0 t ih => exact .tray z0 ih
  | own fr t sp ih =>
    obtain ⟨o', ho⟩ := fr.own.there
    exact .own ⟨fr.own.mono x.f (fun u hu => x.h _ u fr.nS hu) (x.n _ o' fr.own.free ho), fr.new, fr.old, fr.nS, fr.nsl⟩ ih sp
end

/-! ### expressions that are to be stored -/
def denV (Γ : Gm) (f : Env → Γ.T → Option (Val × Γ.T)) : TE := fun σ H Q => ∃ F ρ t w t', Rep Γ F H σ ρ t ∧ f ρ t = some (w, t') ∧
  ∀ v F' H', Rep Γ F' H' σ ρ t' → Ext Γ.S F H F' H' → NsOk Γ H F' H' σ ρ [v] [w] → Q v H'
def denVs (Γ : Gm) (f : Env → Γ.T → Option (List Val × Γ.T)) : TA := fun σ H Q => ∃ F ρ t w t', Rep Γ F H σ ρ t ∧ f ρ t = some (w, t') ∧
  ∀ vs F' H', Rep Γ F' H' σ ρ t' → Ext Γ.S F H F' H' → NsOk Γ H F' H' σ ρ vs w → Q vs H'
def mRv {T : Type} (f : ME T) : Env → T → Option (Val × T) := fun ρ t => match f ρ t with
  | some (.fro d, t') => some (.fro d, t')
  | some (.tray k, t') => some (.tray k, t')
  | some (.loan j, t') => match ρ[j]? with
    | some (some (.bor d)) => some (.bor d, t')
    | _ => none
  | none => none
def mNew {T : Type} (f : Env → T → Option (PyData × T)) : Env → T → Option (Val × T) := fun ρ t => match f ρ t with
  | some (d, t') => some (.own d, t')
  | none => none
section
variable {Γ : Gm} {X : Cx} {a b c : Expr} {es : List Expr} {fa fb fc : ME Γ.T} {pos : Pos}
theorem pe_rv (h : PE X a (den Γ fa)) : PE X a (denV Γ (mRv fa)) := pe_w h fun σ H Q => by
  rintro ⟨F, ρ, t, r, t', R, e, q⟩
  unfold mRv at e
  split at e
  · rename_i d t1 e1
    cases e
    exact ⟨F, ρ, t, _, _, R, e1, fun v F1 H1 R1 x1 k1 => q v F1 H1 R1 x1 (.fro k1 .nil)⟩
  · rename_i t1 e1
    cases e
    refine ⟨F, ρ, t, _, _, R, e1, fun v F1 H1 R1 x1 k1 => ?_⟩
    cases (show v = Γ.ta _ from k1)
    exact q _ F1 H1 R1 x1 (.tray rfl .nil)
  · rename_i j t1 e1
    split at e
    · rename_i d e2
      cases e
      refine ⟨F, ρ, t, _, _, R, e1, fun v F1 H1 R1 x1 k1 => ?_⟩
      obtain ⟨u, e3, s⟩ := R1.slots j _ e2
      have k1 : σ[j]? = some (some v) := k1
      rw [k1] at e3
      cases e3
      exact q _ F1 H1 R1 x1 (.bor s .nil)
    · cases e
  · cases e
theorem pe_new {f : Env → Γ.T → Option (PyData × Γ.T)} (h : PE X a (denL Γ f)) : PE X a (denV Γ (mNew f)) := pe_w h fun σ H Q => by
  rintro ⟨F, ρ, t, r, t', R, e, q⟩
  unfold mNew at e
  split at e
  · rename_i d t1 e1
    cases e
    exact ⟨F, ρ, t, _, _, R, e1, fun p F1 H1 R1 x1 fr => q _ F1 H1 R1 x1 (.own fr .nil fun j e z => by simp at z)⟩
  · cases e
def mNilV {T : Type} : Env → T → Option (List Val × T) := fun _ t => some ([], t)
def mConsV {T : Type} (f : Env → T → Option (Val × T)) (g : Env → T → Option (List Val × T)) : Env → T → Option (List Val × T) := fun ρ t => do
  let (r, t1) ← f ρ t
  let (rs, t2) ← g ρ t1
  pure (r :: rs, t2)
theorem pa_nilV : PA X [] (denVs Γ mNilV) := pa_w pa_nil fun σ H Q => by
  rintro ⟨F, ρ, t, r, t', R, e, q⟩
  cases e
  exact q [] F H R (Ext.refl R.ex) .nil
theorem old_none {F H F1 H1 : Hp} {σ : L2.St} {ρ : Env} {t : Γ.T} {p : Addr} (x : Ext Γ.S F H F1 H1) (R1 : Rep Γ F1 H1 σ ρ t) (hp : H1 p = none) : H p = none := by
  cases z : H p with
  | none => rfl
  | some o =>
    by_cases hS : p ∈ Γ.S
    · obtain ⟨o2, q2⟩ := Γ.has _ H1 p hS R1.inn
      rw [hp] at q2; cases q2
    · have := x.h p o hS z
      rw [hp] at this; cases this
theorem NsOk.back {F H F1 H1 F2 H2 : Hp} {σ : L2.St} {ρ : Env} {t : Γ.T} (x : Ext Γ.S F H F1 H1) (R1 : Rep Γ F1 H1 σ ρ t) {vs : List V} {ws : List Val} (n : NsOk Γ H1 F2 H2 σ ρ vs ws) :
    NsOk Γ H F2 H2 σ ρ vs ws ∧ ∀ (j : Nat) (e : PyData) (p : Addr), ws[j]? = some (.own e) → vs[j]? = some (.ref p) → H1 p = none := by
  induction n with
  | nil => exact ⟨.nil, fun j e p z => by simp at z⟩
  | fro k t ih =>
    refine ⟨.fro k ih.1, fun j e p z1 z2 => ?_⟩
    cases j with
    | zero => simp at z1
    | succ j => exact ih.2 j e p (by simpa using z1) (by simpa using z2)
  | bor k t ih =>
    refine ⟨.bor k ih.1, fun j e p z1 z2 => ?_⟩
    cases j with
    | zero => simp at z1
    | succ j => exact ih.2 j e p (by simpa using z1) (by simpa using z2)
  | tray z0 t ih =>
    refine ⟨.tray z0 ih.1, fun j e p z1 z2 => ?_⟩
    cases j with
    | zero => simp at z1
    | succ j => exact ih.2 j e p (by simpa using z1) (by simpa using z2)
  | own fr t sp ih =>
    refine ⟨.own ⟨fr.own, old_none x R1 fr.new, fr.old, fr.nS, fr.nsl⟩ ih.1 sp, fun j e p z1 z2 => ?_⟩
    cases j with
    | zero =>
      have e0 := Option.some.inj (show some (V.ref _) = some (V.ref p) from z2)
      cases e0
      exact fr.new
    | succ j => exact ih.2 j e p (by simpa using z1) (by simpa using z2)
variable {f : Env → Γ.T → Option (Val × Γ.T)} {ga : Env → Γ.T → Option (List Val × Γ.T)}
theorem pa_consV (ha : PE X a (denV Γ f)) (hr : PA X es (denVs Γ ga)) (hs : starEach (a :: es) X.env = (false, eval a X.env) :: starEach es X.env := by rfl) : PA X (a :: es) (denVs Γ (mConsV f ga)) := pa_w (pa_cons ha hr hs) fun σ H Q => by
  rintro ⟨F, ρ, t, r, t', R, e, q⟩
  obtain ⟨⟨r1, t1⟩, e1, e⟩ := bind_some e
  obtain ⟨⟨rs, t2⟩, e2, e⟩ := bind_some e
  cases e
  refine ⟨F, ρ, t, _, _, R, e1, fun v F1 H1 R1 x1 k1 => ⟨F1, ρ, _, _, _, R1, e2, fun vs F2 H2 R2 x2 k2 => q _ F2 H2 R2 (x1.then x2 R2) ?_⟩⟩
  have k1' := k1.ext R1.toFin x2
  obtain ⟨b1, b2⟩ := k2.back x1 R1
  cases k1' with
  | fro k _ => exact .fro k b1
  | bor k _ => exact .bor k b1
  | tray z0 _ => exact .tray z0 b1
  | own fr _ _ =>
    refine .own fr b1 fun j e z1 z2 => ?_
    have hn := b2 j e _ z1 z2
    cases k1 with
    | own fr1 _ _ =>
      obtain ⟨o, ho⟩ := fr1.own.there
      rw [hn] at ho; cases ho

/-! ### statements -/
inductive Fl where
  | nx (ρ : Env) | rt (d : PyData) | bk (ρ : Env) | ct (ρ : Env)
abbrev MS (T : Type) := Env → T → Option (Fl × T)
def post (Γ : Gm) (F : Hp) (D : Ends) (t' : Γ.T) : Fl → Prop
  | .nx ρ' => ∀ σ' F' H', Rep Γ F' H' σ' ρ' t' → Same F F' → D.nx σ' H'
  | .rt d => ∀ v F' H', Fin Γ F' H' t' → Dq Γ.K F' v d → D.rt v H'
  | .bk ρ' => ∀ σ' F' H', Rep Γ F' H' σ' ρ' t' → Same F F' → D.bk σ' H'
  | .ct ρ' => ∀ σ' F' H', Rep Γ F' H' σ' ρ' t' → Same F F' → D.ct σ' H'
theorem post_more {Γ : Gm} {F F1 : Hp} {D : Ends} {t' : Γ.T} {r : Fl} (e : Same F F1) (h : post Γ F D t' r) : post Γ F1 D t' r := by
  cases r with
  | nx ρ => exact fun σ' F' H' R s => h σ' F' H' R (e.trans s)
  | rt d => exact h
  | bk ρ => exact fun σ' F' H' R s => h σ' F' H' R (e.trans s)
  | ct ρ => exact fun σ' F' H' R s => h σ' F' H' R (e.trans s)
def denS (Γ : Gm) (f : MS Γ.T) : TS := fun D σ H => ∃ F ρ t r t', Rep Γ F H σ ρ t ∧ f ρ t = some (r, t') ∧ post Γ F D t' r
theorem ps_w {s : Stmt} {t t' : TS} (h : PS X s t) (w : ∀ D σ H, t' D σ H → t D σ H) : PS X s t' := ⟨fun pins s σ H D I q => h.run pins s σ H D I (w D σ H q)⟩
theorem pss_w {s : List Stmt} {t t' : TS} (h : PSs X s t) (w : ∀ D σ H, t' D σ H → t D σ H) : PSs X s t' := ⟨fun pins s σ H D I q => h.run pins s σ H D I (w D σ H q)⟩
def mSkip {T : Type} : MS T := fun ρ t => some (.nx ρ, t)
def mSeq {T : Type} (f g : MS T) : MS T := fun ρ t => match f ρ t with
  | some (.nx ρ1, t1) => g ρ1 t1
  | r => r
variable {st : Stmt} {rest : List Stmt} {sa sb : MS Γ.T}
theorem pss_nilD : PSs X [] (denS Γ mSkip) := pss_w pss_nil fun D σ H => by
  rintro ⟨F, ρ, t, r, t', R, e, q⟩
  cases e
  exact q σ F H R (Same.refl F)
theorem ps_passD : PS X (.Pass pos) (denS Γ mSkip) := ps_w ps_pass fun D σ H => by
  rintro ⟨F, ρ, t, r, t', R, e, q⟩
  cases e
  exact q σ F H R (Same.refl F)
theorem ps_docD {x : Str} {j : Nat} {p2 : Pos} : PS X (.Expr (.Constant (.str x) j pos) p2) (denS Γ mSkip) := ps_w ps_doc fun D σ H => by
  rintro ⟨F, ρ, t, r, t', R, e, q⟩
  cases e
  exact q σ F H R (Same.refl F)
theorem pss_consD (h1 : PS X st (denS Γ sa)) (h2 : PSs X rest (denS Γ sb)) : PSs X (st :: rest) (denS Γ (mSeq sa sb)) := pss_w (pss_cons h1 h2) fun D σ H => by
  rintro ⟨F, ρ, t, r, t', R, e, q⟩
  unfold mSeq at e
  split at e
  · rename_i ρ1 t1 e1
    exact ⟨F, ρ, t, _, _, R, e1, fun σ' F' H' R' s => ⟨F', ρ1, t1, r, t', R', e, post_more s q⟩⟩
  · rename_i hne
    refine ⟨F, ρ, t, r, t', R, e, ?_⟩
    cases r with
    | nx ρ1 => exact (hne _ _ e).elim
    | rt d => exact q
    | bk ρ1 => exact q
    | ct ρ1 => exact q
theorem pss_oneD (h1 : PS X st (denS Γ sa)) : PSs X [st] (denS Γ sa) := pss_w (pss_one h1) fun D σ H q => q
def mBreak {T : Type} : MS T := fun ρ t => some (.bk ρ, t)
def mCont {T : Type} : MS T := fun ρ t => some (.ct ρ, t)
theorem ps_breakD : PS X (.Break pos) (denS Γ mBreak) := ps_w ps_break fun D σ H => by
  rintro ⟨F, ρ, t, r, t', R, e, q⟩
  cases e
  exact q σ F H R (Same.refl F)
theorem ps_contD : PS X (.Continue pos) (denS Γ mCont) := ps_w ps_continue fun D σ H => by
  rintro ⟨F, ρ, t, r, t', R, e, q⟩
  cases e
  exact q σ F H R (Same.refl F)
def mIfS {T : Type} (c : Env → T → Option (Bool × T)) (f g : MS T) : MS T := fun ρ t => do
  let (b, t1) ← c ρ t
  if b then f ρ t1 else g ρ t1
theorem ps_ifD {ta : Env → Γ.T → Option (Bool × Γ.T)} {sa' sb' : List Stmt} (hc : PT X c (denT Γ ta)) (ha : PSs X sa' (denS Γ sa)) (hb : PSs X sb' (denS Γ sb)) : PS X (.If c sa' sb' pos) (denS Γ (mIfS ta sa sb)) := ps_w (ps_if hc ha hb) fun D σ H => by
  rintro ⟨F, ρ, t, r, t', R, e, q⟩
  obtain ⟨⟨b1, t1⟩, e1, e⟩ := bind_some e
  refine ⟨F, ρ, t, b1, t1, R, e1, fun F1 H1 R1 x1 => ?_⟩
  cases b1 with
  | true => exact iteT ⟨F1, ρ, t1, r, t', R1, e, post_more x1.f q⟩
  | false => exact iteF ⟨F1, ρ, t1, r, t', R1, e, post_more x1.f q⟩
def mDrop {T : Type} (f : ME T) : MS T := fun ρ t => match f ρ t with
  | some (_, t') => some (.nx ρ, t')
  | none => none
theorem ps_exprD (h : PE X a (den Γ fa)) (hs : swapsWith a none pos.line X.env = pure false := by rfl) : PS X (.Expr a pos) (denS Γ (mDrop fa)) := ps_w (ps_expr h hs) fun D σ H => by
  rintro ⟨F, ρ, t, r, t', R, e, q⟩
  unfold mDrop at e
  split at e
  · rename_i r1 t1 e1
    cases e
    exact ⟨F, ρ, t, _, _, R, e1, fun v F1 H1 R1 x1 k1 => q σ F1 H1 R1 x1.f⟩
  · cases e
/-- return e; one's own list or dict is given away -/
def mRet {T : Type} (f : ME T) : MS T := fun ρ t => match f ρ t with
  | some (.fro d, t') => some (.rt d, t')
  | some (.loan j, t') => match ρ[j]? with
    | some (some (.own d)) => some (.rt d, t')
    | _ => none
  | _ => none
theorem Fin.froze {F H : Hp} {t : Γ.T} {p : Addr} {o : HO} (R : Fin Γ F H t) (hF : F p = none) (hH : H p = some o) (nS : p ∉ Γ.S) (old : Γ.H0 p = none) : Fin Γ (upd F p o) H t := by
  have sm : Same F (upd F p o) := fun b u q => by rw [upd_ne (ne_of_none q hF)]; exact q
  refine { ex := fun b u q => ?_, inn := R.inn, sF := fun b hb => ?_, step0 := R.step0.trans sm, step := fun b u n1 n2 n3 => ?_ }
  · by_cases hb : b = p
    · subst hb; rw [upd_same] at q; rw [hH]; exact q
    · rw [upd_ne hb] at q; exact R.ex b u q
  · rw [upd_ne (fun z : b = p => nS (z ▸ hb))]; exact R.sF b hb
  · have hba : b ≠ p := fun z => by subst z; rw [old] at n3; cases n3
    rw [upd_ne hba]; exact R.step b u n1 n2 n3
theorem ps_retD (h : PE X a (den Γ fa)) : PS X (.Return (some a) pos) (denS Γ (mRet fa)) := ps_w (ps_ret h) fun D σ H => by
  rintro ⟨F, ρ, t, r, t', R, e, q⟩
  unfold mRet at e
  split at e
  · rename_i d t1 e1
    cases e
    exact ⟨F, ρ, t, _, _, R, e1, fun v F1 H1 R1 x1 k1 => q v F1 H1 R1.toFin k1⟩
  · rename_i j t1 e1
    split at e
    · rename_i d e2
      cases e
      refine ⟨F, ρ, t, _, _, R, e1, fun v F1 H1 R1 x1 k1 => ?_⟩
      obtain ⟨p, e3, o, old, nS⟩ := R1.slots j _ e2
      have k1 : σ[j]? = some (some v) := k1
      rw [k1] at e3
      cases e3
      obtain ⟨u, hu, dq⟩ := o.froze
      exact q _ _ _ (R1.toFin.froze o.free hu nS old) dq
    · cases e
  · cases e
def mRetN {T : Type} : MS T := fun _ t => some (.rt .none, t)
theorem ps_retND : PS X (.Return none pos) (denS Γ mRetN) := ps_w ps_retN fun D σ H => by
  rintro ⟨F, ρ, t, r, t', R, e, q⟩
  cases e
  exact q _ F H R.toFin .non
/-- what is never come to -/
def mStop {T : Type} : MS T := fun _ _ => none
theorem ps_stopD : PS X st (denS Γ mStop) := ps_w ps_never fun D σ H => by
  rintro ⟨F, ρ, t, r, t', R, e, q⟩
  cases e

/-! ### targets of data -/
theorem wipe_under {i : Nat} {x : Option V} : ∀ (vs : List Nat) (σ : L2.St), (wipe (σ.set i x) vs).set i none = (wipe σ vs).set i none
  | [], σ => by unfold wipe; rw [List.set_set]
  | v :: vs, σ => by
    unfold wipe
    by_cases e : v = i
    · subst e
      rw [List.set_set, List.set_set, wipe_under vs σ]
    · rw [List.set_comm _ _ e, List.set_comm _ _ e, wipe_under vs σ]
theorem wipe_put {i : Nat} {x : Option V} : ∀ {vs : List Nat} {σ : L2.St}, i ∈ vs → wipe (σ.set i x) vs = wipe σ vs
  | v :: vs, σ, h => by
    unfold wipe
    rcases List.mem_cons.mp h with e | e
    · subst e
      exact wipe_under vs σ
    · rw [wipe_put e]
def denG (Γ : Gm) (ks : List Nat) (g : PyData → Env → Option Env) : TG := fun v σ H Q => ∃ F ρ t d ρ', Rep Γ F H σ ρ t ∧ Dq Γ.K F v d ∧ g d ρ = some ρ' ∧ ∀ σ', Rep Γ F H σ' ρ' t → wipe σ' ks = wipe σ ks → Q σ' H
def denGs (Γ : Gm) (ks : List Nat) (g : List PyData → Env → Option Env) : TGs := fun vs σ H Q => ∃ F ρ t ds ρ', Rep Γ F H σ ρ t ∧ DqA Γ.K F vs ds ∧ g ds ρ = some ρ' ∧ ∀ σ', Rep Γ F H σ' ρ' t → wipe σ' ks = wipe σ ks → Q σ' H
theorem pg_w {e : Expr} {t t' : TG} (h : PG X e t) (w : ∀ v σ H Q, t' v σ H Q → t v σ H Q) : PG X e t' := ⟨fun pins s σ H v u Q I r q => h.run pins s σ H v u Q I r (w v σ H Q q)⟩
theorem pgs_w {e : List Expr} {t t' : TGs} (h : PGs X e t) (w : ∀ v σ H Q, t' v σ H Q → t v σ H Q) : PGs X e t' := ⟨fun pins s σ H v u Q I r q => h.run pins s σ H v u Q I r (w v σ H Q q)⟩
def gN (i : Nat) : PyData → Env → Option Env := fun d ρ => some (ρ.set i (some (.fro d)))
def gT (g : List PyData → Env → Option Env) (n : Nat) : PyData → Env → Option Env := fun d ρ => match d with
  | .tuple ds => if ds.length = n then g ds ρ else none
  | _ => none
def gs0 : List PyData → Env → Option Env := fun ds ρ => match ds with
  | [] => some ρ
  | _ => none
def gs1 (g : PyData → Env → Option Env) (h : List PyData → Env → Option Env) : List PyData → Env → Option Env := fun ds ρ => match ds with
  | d :: r => (g d ρ).bind (h r)
  | [] => none
variable {ks : List Nat}
theorem pg_nm {i : Nat} (hm : i ∈ ks) (h : PG X a (gName i)) : PG X a (denG Γ ks (gN i)) := pg_w h fun v σ H Q => by
  rintro ⟨F, ρ, t, d, ρ', R, k, e, q⟩
  cases e
  exact q _ (R.setF k) (wipe_put hm)
theorem pgs_0 : PGs X [] (denGs Γ ks gs0) := pgs_w pgs_nil fun v σ H Q => by
  rintro ⟨F, ρ, t, d, ρ', R, k, e, q⟩
  unfold gs0 at e
  split at e
  · cases e
    cases k
    exact ⟨rfl, q _ R rfl⟩
  · cases e
theorem pgs_1 {g : PyData → Env → Option Env} {h : List PyData → Env → Option Env} (h1 : PG X a (denG Γ ks g)) (h2 : PGs X es (denGs Γ ks h)) (hs : (assignEach (a :: es) X.env).map (·.2) = assign a X.env :: (assignEach es X.env).map (·.2) := by rfl) : PGs X (a :: es) (denGs Γ ks (gs1 g h)) := pgs_w (pgs_cons h1 h2 hs) fun v σ H Q => by
  rintro ⟨F, ρ, t, ds, ρ', R, k, e, q⟩
  unfold gs1 at e
  split at e
  · cases k with
    | cons k1 k2 =>
      obtain ⟨ρ1, e1, e⟩ := bind_some e
      exact ⟨_, _, rfl, F, ρ, t, _, ρ1, R, k1, e1, fun σ1 R1 w1 => ⟨F, ρ1, t, _, ρ', R1, k2, e, fun σ2 R2 w2 => q σ2 R2 (w2.trans w1)⟩⟩
  · cases e
theorem pg_tp {g : List PyData → Env → Option Env} {k n : Nat} (hc : X.calm = true) (hK : X.K = Γ.K) (h : PGs X es (denGs Γ ks g)) (hn : (assignEach es X.env).length = n := by rfl) (hst : (assignEach es X.env).findIdx? (·.1) = none := by rfl) : PG X (.Tuple es k pos) (denG Γ ks (gT g n)) := pg_w (pg_tup hc h hn hst) fun v σ H Q => by
  rintro ⟨F, ρ, t, d, ρ', R, k, e, q⟩
  unfold gT at e
  split at e
  · split at e
    · rename_i hl
      cases k with
      | tup h1 k1 =>
        refine ⟨_, _, rfl, ?_, by rw [k1.length]; exact hl, F, ρ, t, _, ρ', R, k1, e, q⟩
        rw [hK]
        exact same_t R.ex h1
    · cases e
  · cases e
/-- target = e -/
def mAsg {T : Type} (f : ME T) (g : PyData → Env → Option Env) : MS T := fun ρ t => match f ρ t with
  | some (.fro d, t') => match g d ρ with
    | some ρ' => some (.nx ρ', t')
    | none => none
  | _ => none
theorem w_asg {g : PyData → Env → Option Env} (D : Ends) (σ : L2.St) (H : Hp) : denS Γ (mAsg fa g) D σ H → tAsg (den Γ fa) (denG Γ ks g) D σ H := by
  rintro ⟨F, ρ, t, r, t', R, e, q⟩
  unfold mAsg at e
  split at e
  · rename_i d t1 e1
    split at e
    · rename_i ρ' e2
      cases e
      exact ⟨F, ρ, t, _, _, R, e1, fun v F1 H1 R1 x1 k1 => ⟨F1, ρ, _, d, ρ', R1, k1, e2, fun σ' R' _ => q σ' F1 H1 R' x1.f⟩⟩
    · cases e
  · cases e
theorem ps_asgD {tg : Expr} {g : PyData → Env → Option Env} (h : PE X a (den Γ fa)) (hg : PG X tg (denG Γ ks g)) (hs : swapsWithSole [tg] a pos.line X.env = pure false := by rfl) (hw : swappedStores [tg] a X.env = pure none := by rfl) (h1 : (assignEach [tg] X.env).map (·.2) = [assign tg X.env] := by rfl) : PS X (.Assign [tg] a pos) (denS Γ (mAsg fa g)) := ps_w (ps_asg h hg hs hw h1) w_asg
/-- x = e, whatever it is -/
def mSet {T : Type} (i : Nat) (f : Env → T → Option (Val × T)) : MS T := fun ρ t => match f ρ t with
  | some (w, t') => some (.nx (ρ.set i (some w)), t')
  | none => none
theorem w_set {i : Nat} (D : Ends) (σ : L2.St) (H : Hp) : denS Γ (mSet i f) D σ H → tAsg (denV Γ f) (gName i) D σ H := by
  rintro ⟨F, ρ, t, r, t', R, e, q⟩
  unfold mSet at e
  split at e
  · rename_i w t1 e1
    cases e
    exact ⟨F, ρ, t, _, _, R, e1, fun v F1 H1 R1 x1 k1 => q _ F1 H1 (k1.step R1).1 x1.f⟩
  · cases e
theorem ps_setD {i : Nat} {x : Str} {p2 : Pos} (hN : X.N.Nodup) (hi : X.N[i]? = some x) (hx : Loc X.env.scope x) (he : PE X a (denV Γ f)) (hs : swapsWith a (some (.Name x p2)) pos.line X.env = pure false := by rfl)
    (hf : X.fn x = true ∨ X.env.scope.names.lookup x = some .local := by first | exact .inl rfl | exact .inr rfl | assumption) : PS X (.Assign [.Name x p2] a pos) (denS Γ (mSet i f)) := ps_w (ps_set hN hi hx he hs hf) w_set
/-- x, y = e1, e2 -/
def mPar {T : Type} (i j : Nat) (f : Env → T → Option (List Val × T)) : MS T := fun ρ t => match f ρ t with
  | some ([w1, w2], t') => some (.nx ((ρ.set i (some w1)).set j (some w2)), t')
  | _ => none
theorem w_par {i j : Nat} (D : Ends) (σ : L2.St) (H : Hp) : denS Γ (mPar i j ga) D σ H → tPar i j (denVs Γ ga) D σ H := by
  rintro ⟨F, ρ, t, r, t', R, e, q⟩
  unfold mPar at e
  split at e
  · rename_i w1 w2 t1 e1
    cases e
    refine ⟨F, ρ, t, _, _, R, e1, fun vs F1 H1 R1 x1 k1 => ?_⟩
    obtain ⟨v1, vs, rfl⟩ : ∃ v1 r, vs = v1 :: r := by cases k1 <;> exact ⟨_, _, rfl⟩
    have s1 := k1.step (i := i) R1
    obtain ⟨v2, vs, rfl⟩ : ∃ v1 r, vs = v1 :: r := by cases s1.2 <;> exact ⟨_, _, rfl⟩
    have s2 := s1.2.step (i := j) s1.1
    obtain rfl : vs = [] := by cases s2.2; rfl
    exact ⟨v1, v2, rfl, q _ F1 H1 s2.1 x1.f⟩
  · cases e
theorem ps_parD {i j : Nat} {x y : Str} {px py pt : Pos} {kt k2 pt2} (hc : X.calm = true) (hN : X.N.Nodup) (hi : X.N[i]? = some x) (hj : X.N[j]? = some y) (hij : i ≠ j)
    (hx : X.env.scope.names.lookup x = some .local) (hy : X.env.scope.names.lookup y = some .local) (ha : PA X [a, b] (denVs Γ ga))
    (hw : swappedStores [.Tuple [.Name x px, .Name y py] kt pt] (.Tuple [a, b] k2 pt2) X.env = pure (some [x, y]))
    (hs : swapsWithSole [.Tuple [.Name x px, .Name y py] kt pt] (.Tuple [a, b] k2 pt2) pos.line X.env = pure false := by rfl) :
    PS X (.Assign [.Tuple [.Name x px, .Name y py] kt pt] (.Tuple [a, b] k2 pt2) pos) (denS Γ (mPar i j ga)) := ps_w (ps_par hc hN hi hj hij hx hy ha hw hs) w_par
/-- targets (names) = a tuple display -/
def setAll (ρ : Env) : List Nat → List Val → Option Env
  | [], [] => some ρ
  | i :: is, w :: ws => setAll (ρ.set i (some w)) is ws
  | _, _ => none
inductive Nms (X : Cx) : List Expr → List Nat → TGs → Prop
  | nil : Nms X [] [] gNil
  | cons {e : Expr} {es : List Expr} {i : Nat} {is : List Nat} {u : TGs} : PG X e (gName i) → Nms X es is u → (assignEach (e :: es) X.env).map (·.2) = assign e X.env :: (assignEach es X.env).map (·.2) → Nms X (e :: es) (i :: is) (gCons (gName i) u)
theorem Nms.pgs {is : List Nat} {u : TGs} (h : Nms X es is u) : PGs X es u := by
  induction h with
  | nil => exact pgs_nil
  | cons h1 _ hs ih => exact pgs_cons h1 ih hs
theorem Nms.sets {is : List Nat} {u : TGs} (h : Nms X es is u) : ∀ {F H H1 : Hp} {σ : L2.St} {ρ ρ' : Env} {t : Γ.T} {vs : List V} {ws : List Val} {Q : L2.St → Hp → Prop}, Rep Γ F H σ ρ t → NsOk Γ H1 F H σ ρ vs ws → setAll ρ is ws = some ρ' → (∀ σ', Rep Γ F H σ' ρ' t → Q σ' H) → u vs σ H Q := by
  induction h with
  | nil =>
    intro F H H1 σ ρ ρ' t vs ws Q R n e q
    cases ws with
    | nil => cases e; cases n; exact ⟨rfl, q _ R⟩
    | cons _ _ => cases e
  | cons h1 _ hs ih =>
    intro F H H1 σ ρ ρ' t vs ws Q R n e q
    cases ws with
    | nil => cases e
    | cons w ws =>
      obtain ⟨v, vs, rfl⟩ : ∃ v1 r, vs = v1 :: r := by cases n <;> exact ⟨_, _, rfl⟩
      obtain ⟨s1, s2⟩ := n.step R
      exact ⟨v, vs, rfl, ih s1 s2 e q⟩
theorem NsOk.length {F H H1 : Hp} {σ : L2.St} {ρ : Env} {vs : List V} {ws : List Val} (n : NsOk Γ H1 F H σ ρ vs ws) : vs.length = ws.length := by
  induction n with
  | nil => rfl
  | fro _ _ ih => simp [ih]
  | bor _ _ ih => simp [ih]
  | tray _ _ ih => simp [ih]
  | own _ _ _ ih => simp [ih]
def mPars {T : Type} (is : List Nat) (f : Env → T → Option (List Val × T)) : MS T := fun ρ t => match f ρ t with
  | some (ws, t') => if ws.length ≤ sizeLine ∧ ws.length = is.length then match setAll ρ is ws with
    | some ρ' => some (.nx ρ', t')
    | none => none else none
  | none => none
theorem ps_parsD {is : List Nat} {u : TGs} {ts : List Expr} {k k2 : _} {p1 p2 : Pos} (hc : X.calm = true) (ha : PA X es (denVs Γ ga)) (hn : Nms X ts is u) (hl : (assignEach ts X.env).length = is.length) (hst : (assignEach ts X.env).findIdx? (·.1) = none)
    (hs : swapsWithSole [.Tuple ts k p1] (.Tuple es k2 p2) pos.line X.env = pure false := by rfl) (hw : swappedStores [.Tuple ts k p1] (.Tuple es k2 p2) X.env = pure none := by rfl) (h1 : (assignEach [.Tuple ts k p1] X.env).map (·.2) = [assign (.Tuple ts k p1) X.env] := by rfl) :
    PS X (.Assign [.Tuple ts k p1] (.Tuple es k2 p2) pos) (denS Γ (mPars is ga)) := ps_w (ps_asg (pe_tup ha) (pg_tup hc hn.pgs hl hst) hs hw h1) fun D σ H => by
  rintro ⟨F, ρ, t, r, t', R, e, q⟩
  unfold mPars at e
  split at e
  · rename_i ws t1 e1
    split at e
    · rename_i hz
      split at e
      · rename_i ρ' e2
        cases e
        refine ⟨F, ρ, t, _, _, R, e1, fun vs F1 H1 R1 x1 k1 => ⟨by rw [k1.length]; exact hz.1, fun p hp => ?_⟩⟩
        have x2 : Ext [] F1 H1 F1 (upd H1 p (.tup vs)) := Ext.new R1.ex hp
        refine ⟨p, vs, rfl, .of upd_same, by rw [k1.length]; exact hz.2, hn.sets (R1.ext0 x2) (k1.ext R1.toFin x2.wide) e2 fun σ' R' => q _ _ _ R' (x1.f.trans x2.f)⟩
      · cases e
    · cases e
  · cases e
end
end Mi
/-! Defs whose promise may lean on this: no repr is under way where they are called. -/
namespace Mi
open PySem L2

/-- a promise that is kept where no repr is under way -/
structure FnG (P : Program) (w : World) (K : PySem.W.Frag) (mg : Str → Option Value) (base : Heap) (CX : CXT) (k : Nat) (f : Addr) (fd : FuncData) (ps : List Str) (sp : Sp) : Prop where
  len : ∀ vs H Q E, sp vs H Q E → vs.length = ps.length
  run : ∀ (A : Around) (outer : List PySem.Env) (s : Shared) (H : Hp) (args : Args) (us : List Value) (vs : List V) (Q : VK) (E : XK), A.guards = some [] → Room k A → Env0 P w K mg base A outer s H → BindsTo s fd args (ps.zip us) → Vals vs us →
    sp vs H Q E → codeAny (model P w) A (.call (.ref f) args) (CR CX outer P w H s Q E) s
section
variable {P : Program} {w : World} {K : PySem.W.Frag} {mg : Str → Option Value} {base : Heap} {CX : CXT} {k : Nat} {f : Addr} {fd : FuncData} {ps : List Str} {sp : Sp}
theorem FnG.mono {j : Nat} (G : FnG P w K mg base CX j f fd ps sp) (h : j ≤ k) : FnG P w K mg base CX k f fd ps sp :=
  ⟨G.len, fun A outer s H args us vs Q E hg hr => G.run A outer s H args us vs Q E hg (hr.mono h)⟩
theorem FnG.ofOk (G : FnOk P w K mg base CX k f fd ps sp) : FnG P w K mg base CX k f fd ps sp :=
  ⟨G.len, fun A outer s H args us vs Q E _ hr => G.run A outer s H args us vs Q E hr⟩
/-- a def by its body -/
theorem Fn.okG {x qual : Str} {st : Stmt} {N : List Str} (F : Fun K x qual st f fd) (S : FnScope N ps (defScope st)) (len : ∀ vs H Q E, sp vs H Q E → vs.length = ps.length)
    (body : ∀ (cdv : Value) (A : Around) (outer : List PySem.Env) (s : Shared) (H : Hp) (vs : List V) (Q : VK) (E : XK), A.guards = some [] → Room k (A.deeper (PyProof.Rows.envOfC qual (defScope st) s.heap.objs.size f cdv)) → sp vs H Q E →
      ∃ t, PSs (cxOf CX P w K mg base N qual (defScope st) f cdv A outer s H E) (defBody st) t ∧ t { nx := fun _ H' => Q .non H', rt := Q } (L2.start N vs) H) : FnG P w K mg base CX (k + 1) f fd ps sp := by
  obtain ⟨oc, od, kV, doc, pm, an, cdv, ct, osl, rfl, lk, hcd⟩ := F.ex
  refine ⟨len, fun A outer s H args us vs Q E hg hr he hb hv hsp => ?_⟩
  have hl := len _ _ _ _ hsp
  have stay : ∀ b o, base.get? b = some o → s.heap.get? b = some o := fun b o e => (he.bs b o e).1
  have KX : K.In s.heap := he.mod.kin.keeps stay
  have kinds : ∀ y ∈ ps.zip us, (defScope st).names.lookup y.1 = some .local ∨ ((defScope st).names.lookup y.1 = some .cell ∧ ((cellsFrom (s.heap.objs.size + 1) (defScope st).names []).lookup y.1).isSome = true) := by
    intro y hy
    have hy1 : y.1 ∈ ps := (List.of_mem_zip (show (y.1, y.2) ∈ ps.zip us from hy)).1
    rcases S.par y.1 hy1 with q | q
    · exact .inl q
    · exact .inr ⟨q, PySem.W.cellsFrom_some _ _ _ (.inl q)⟩
  refine PySem.codeAny_call_function hr.depth (KX _ _ lk) rfl S.co S.gen rfl (PySem.W.codeRec_of KX hcd) (hb _ _ _ _ ?_)
  refine wpAny_newFunctionEnv_cells S.kind kinds fun env e1 s1 x => ?_
  subst e1
  refine ⟨(he.mod.nolimit.keeps stay).keeps x.toInCall.keep, PySem.codeAny_func ?_⟩
  obtain ⟨t, ht, hq⟩ := body cdv A outer s H vs Q E hg (hr.deeper _) hsp
  have I := inv_start (CX := CX) (E := E) (qual := qual) (f := f) (cd := cdv) S hr.hd he hl hv x
  refine wpAny_mono (ht.run [] s1 (L2.start N vs) H _ I hq) (fun fl s' hs => ?_) fun e s' hs => hs
  cases fl with
  | next => obtain ⟨σ', H', J, q⟩ := hs; exact ⟨V.non, H', J.os, J.bare, J.base, J.hok, rfl, q⟩
  | ret u => obtain ⟨v, σ', H', J, rv, q⟩ := hs; exact ⟨v, H', J.os, J.bare, J.base, J.hok, rv, q⟩
  | brk => obtain ⟨_, _, _, q⟩ := hs; exact q.elim
  | cont => obtain ⟨_, _, _, q⟩ := hs; exact q.elim
end
section
variable {X : Cx} {CX : CXT} {k : Nat} {f : Addr} {fd : FuncData} {ps ks : List Str} {sp : Sp} {E : XK} {x : Str} {p pos : Pos} {e : Expr} {es : List Expr} {t tk : TA} {kws : List Keyword} {g : List Value → List Value → List Value} {gV : List V → List V → List V}
/-- behind the callee -/
theorem after_fn {pins : List (Addr × Obj)} {σ : L2.St} {H : Hp} {s : Shared} {Q : VK} {args : Args} (hx : Passes CX X E) (I : L2.Inv X pins σ H s)
    (h : codeAny (model X.prog X.w) X.A (.call (.ref f) args) (CR CX X.stack X.prog X.w H s Q E) s) : codeAny (model X.prog X.w) X.A (.call (.ref f) args) (fun r s' => match r with
      | .ok (.ret u) => EP X pins σ Q u s'
      | .ok _ => False
      | .error er => X.xe er s') s := codeAny_mono h fun r s' hq => by
  cases r with
  | error er => exact hx pins σ H s er s' I hq
  | ok fl =>
    cases fl with
    | ret u => exact I.after hq
    | next => exact hq.elim
    | brk => exact hq.elim
    | cont => exact hq.elim
theorem goG {pins : List (Addr × Obj)} {σ : L2.St} {H : Hp} {s : Shared} {Q : VK} {us : List Value} {vs : List V} (G : FnG X.prog X.w X.K X.mg X.base CX k f fd ps sp) (hg : X.A.guards = some []) (hr : Room k X.A) (hb : Binds X.K fd ps []) (hx : Passes CX X E)
    (I : L2.Inv X pins σ H s) (r : Vals vs us) (h : sp vs H Q E) : wpAny (model X.prog X.w) X.A (call (.ref f) us) (EP X pins σ Q) X.xe s := by
  have hl : us.length = ps.length := by rw [← r.length]; exact G.len _ _ _ _ h
  have hb2 := hb s us I.kIn (by simpa using hl)
  rw [List.append_nil] at hb2
  refine wpAny_call (codeAny_mono (after_fn (Q := Q) hx I (G.run X.A X.stack s H ⟨us, []⟩ us vs Q E hg hr I.env0 hb2 r h)) fun r s' hq => ?_)
  cases r with
  | error er => exact hq
  | ok fl => cases fl <;> first | exact hq | exact hq.elim
/-- f(e, ..) -/
theorem pe_callG (G : FnG X.prog X.w X.K X.mg X.base CX k f fd ps sp) (hg : X.A.guards = some []) (hr : Room k X.A) (hgl : Gl X x) (hm : X.mg x = some (.ref f)) (hk : PySem.W.keepIn X.K (.ref f) = true) (hb : Binds X.K fd ps []) (hx : Passes CX X E)
    (ha : PA X (e :: es) t) (hdb : (x == ("__debug__" : Str)) = false := by decide) (he : starEach (e :: es) X.env = (false, eval e X.env) :: starEach es X.env := by rfl) (hpl : (backTo pos (starEach es X.env)).any (·.1) = false := by rfl) :
    PE X (.Call (.Name x p) (e :: es) [] pos) (fun σ H Q => t σ H fun vs H1 => sp vs H1 Q E) := by
  refine ⟨fun pins s σ H Q I h => wpAny_Call_Name_kw (ld_glob I hgl hm ?_ hdb)⟩
  refine PySem.W.callWith_K (h₀ := X.base) I.ok.mod.kin hk (thn (ha.run pos pins s σ H _ I h) fun us s1 hq => ?_) he hpl
  obtain ⟨vs, H1, I1, r, q⟩ := hq
  exact ⟨I1.kIn, goG G hg hr hb hx I1 r q⟩
/-- f() -/
theorem pe_callG0 (G : FnG X.prog X.w X.K X.mg X.base CX k f fd ps sp) (hg : X.A.guards = some []) (hr : Room k X.A) (hgl : Gl X x) (hm : X.mg x = some (.ref f)) (hk : PySem.W.keepIn X.K (.ref f) = true) (hb : Binds X.K fd ps []) (hx : Passes CX X E)
    (hdb : (x == ("__debug__" : Str)) = false := by decide) : PE X (.Call (.Name x p) [] [] pos) (fun σ H Q => sp [] H Q E) :=
  ⟨fun pins s σ H Q I h => wpAny_Call_Name_kw (ld_glob I hgl hm (PySem.W.callWith_K0 I.kIn hk (goG (us := []) G hg hr hb hx I .nil h)) hdb)⟩
theorem goGK {pins : List (Addr × Obj)} {σ : L2.St} {H : Hp} {s : Shared} {Q : VK} {us ws : List Value} {vs zs : List V} (G : FnG X.prog X.w X.K X.mg X.base CX k f fd ps sp) (hg : X.A.guards = some []) (hr : Room k X.A) (hb : KBinds X.K fd ps ks g gV) (hx : Passes CX X E)
    (I : L2.Inv X pins σ H s) (r : Vals vs us) (rz : Vals zs ws) (h : sp (gV vs zs) H Q E) : wpAny (model X.prog X.w) X.A (call (.ref f) us (ks.zip ws)) (EP X pins σ Q) X.xe s := by
  have r2 := hb.rel r rz
  have hl : (g us ws).length = ps.length := by rw [← r2.length]; exact G.len _ _ _ _ h
  refine wpAny_call (codeAny_mono (after_fn (Q := Q) hx I (G.run X.A X.stack s H ⟨us, ks.zip ws⟩ (g us ws) (gV vs zs) Q E hg hr I.env0 (hb.to s us ws I.kIn hl) r2 h)) fun r s' hq => ?_)
  cases r with
  | error er => exact hq
  | ok fl => cases fl <;> first | exact hq | exact hq.elim
/-- f(k = v, ..) -/
theorem pe_callGK0 (G : FnG X.prog X.w X.K X.mg X.base CX k f fd ps sp) (hg : X.A.guards = some []) (hr : Room k X.A) (hgl : Gl X x) (hm : X.mg x = some (.ref f)) (hk : PySem.W.keepIn X.K (.ref f) = true) (hb : KBinds X.K fd ps ks g gV) (hx : Passes CX X E)
    (hkw : PK X kws tk) (hall : (backToKw pos (keywordEach kws X.env)).all (·.1.isSome) = true := by rfl) (hks : (backToKw pos (keywordEach kws X.env)).filterMap (·.1) = ks := by rfl) (hdb : (x == ("__debug__" : Str)) = false := by decide)
    (hpl : ((backTo pos (starEach [] X.env)).any (·.1) || (backToKw pos (keywordEach kws X.env)).any (·.1.isNone)) = false := by rfl) :
    PE X (.Call (.Name x p) [] kws pos) (fun σ H Q => tk σ H fun zs H2 => sp (gV [] zs) H2 Q E) := by
  refine ⟨fun pins s σ H Q I h => wpAny_Call_Name_kw (ld_glob I hgl hm ?_ hdb)⟩
  refine PySem.W.callWith_KW0 (h₀ := X.base) I.ok.mod.kin hk hall (thn (hkw.run pos pins s σ H _ I h) fun ws s2 hq => ?_) hpl
  obtain ⟨zs, H2, I2, rz, q2⟩ := hq
  refine ⟨I2.kIn, ?_⟩
  rw [hks]
  exact goGK (us := []) (vs := []) G hg hr hb hx I2 .nil rz q2
/-- f(e, .., k = v, ..) -/
theorem pe_callGK (G : FnG X.prog X.w X.K X.mg X.base CX k f fd ps sp) (hg : X.A.guards = some []) (hr : Room k X.A) (hgl : Gl X x) (hm : X.mg x = some (.ref f)) (hk : PySem.W.keepIn X.K (.ref f) = true) (hb : KBinds X.K fd ps ks g gV) (hx : Passes CX X E)
    (ha : PA X (e :: es) t) (hkw : PK X kws tk) (hall : (backToKw pos (keywordEach kws X.env)).all (·.1.isSome) = true := by rfl) (hks : (backToKw pos (keywordEach kws X.env)).filterMap (·.1) = ks := by rfl) (hdb : (x == ("__debug__" : Str)) = false := by decide)
    (he : starEach (e :: es) X.env = (false, eval e X.env) :: starEach es X.env := by rfl) (hpl : ((backTo pos (starEach (e :: es) X.env)).any (·.1) || (backToKw pos (keywordEach kws X.env)).any (·.1.isNone)) = false := by rfl) :
    PE X (.Call (.Name x p) (e :: es) kws pos) (fun σ H Q => t σ H fun vs H1 => tk σ H1 fun zs H2 => sp (gV vs zs) H2 Q E) := by
  refine ⟨fun pins s σ H Q I h => wpAny_Call_Name_kw (ld_glob I hgl hm ?_ hdb)⟩
  refine PySem.W.callWith_KW (h₀ := X.base) I.ok.mod.kin hk hall (thn (ha.run pos pins s σ H _ I h) fun us s1 hq => ?_) hpl he
  obtain ⟨vs, H1, I1, r, q1⟩ := hq
  refine thn (hkw.run pos pins s1 σ H1 _ I1 q1) fun ws s2 hq => ?_
  obtain ⟨zs, H2, I2, rz, q2⟩ := hq
  refine ⟨I2.kIn, ?_⟩
  rw [hks]
  exact goGK G hg hr hb hx I2 r rz q2
end

/-! ### a def whose mirror is known -/
/-- arguments: lent (true) or kept (false) -/
inductive ArgOk (K : PySem.W.Frag) (S : List Addr) (F H : Hp) : List Bool → List V → List PyData → Prop
  | nil : ArgOk K S F H [] [] []
  | kept {b : Bool} {bs : List Bool} {v : V} {vs : List V} {d : PyData} {ds : List PyData} : Dq K F v d → ArgOk K S F H bs vs ds → ArgOk K S F H (b :: bs) (v :: vs) (d :: ds)
  | lent {bs : List Bool} {a : Addr} {vs : List V} {d : PyData} {ds : List PyData} : Own K F H a d → a ∉ S → ArgOk K S F H bs vs ds → ArgOk K S F H (true :: bs) (.ref a :: vs) (d :: ds)
theorem ArgOk.len {K : PySem.W.Frag} {S : List Addr} {F H : Hp} {bs : List Bool} {vs : List V} {ds : List PyData} (h : ArgOk K S F H bs vs ds) : vs.length = bs.length ∧ ds.length = bs.length := by
  induction h with
  | nil => exact ⟨rfl, rfl⟩
  | kept _ _ ih => exact ⟨congrArg Nat.succ ih.1, congrArg Nat.succ ih.2⟩
  | lent _ _ _ ih => exact ⟨congrArg Nat.succ ih.1, congrArg Nat.succ ih.2⟩
def spP (K : PySem.W.Frag) (md : List Bool) (m : List PyData → Option PyData) : Sp := fun vs H Q _ => ∃ F ds d, Same F H ∧ ArgOk K [] F H md vs ds ∧ m ds = some d ∧ ∀ v F' H', Ext [] F H F' H' → Dq K F' v d → Q v H'
/-- the state of a def that has no tray -/
def Gp (K : PySem.W.Frag) (F H : Hp) : Gm := { K := K, S := [], T := Unit, In := fun _ _ => True, loc := fun _ _ _ _ h => h, has := fun _ _ _ h _ => absurd h (by simp), F0 := F, H0 := H, ta := fun _ => .non }
def slotsOf : List Bool → List PyData → Env
  | b :: bs, d :: ds => some (if b then .bor d else .fro d) :: slotsOf bs ds
  | _, _ => []
def entry (n : Nat) (bs : List Bool) (ds : List PyData) : Env := slotsOf bs ds ++ List.replicate (n - ds.length) none
def mFun (n : Nat) (bs : List Bool) (body : MS Unit) : List PyData → Option PyData := fun ds => match body (entry n bs ds) () with
  | some (.rt d, _) => some d
  | some (.nx _, _) => some .none
  | _ => none
section
variable {K : PySem.W.Frag} {S : List Addr} {F H : Hp} {bs : List Bool} {vs : List V} {ds : List PyData}
theorem slotsOf_len (h : ArgOk K S F H bs vs ds) : (slotsOf bs ds).length = vs.length := by
  induction h with
  | nil => rfl
  | kept _ _ ih => exact congrArg Nat.succ ih
  | lent _ _ _ ih => exact congrArg Nat.succ ih
theorem entry_slot {Γ : Gm} {N : List Str} (hK : Γ.K = K) (hS : Γ.S = S) (hF : Γ.F0 = F) (hH : Γ.H0 = H) {pre : List V} {pe : Env} (hl : pre.length = pe.length) (h : ArgOk K S F H bs vs ds) :
    ∀ (i : Nat) (w : Val), (pe ++ slotsOf bs ds)[i]? = some (some w) → i < pe.length ∨ SlotOk Γ F H ((pre ++ vs).map some) i w := by
  induction h generalizing pre pe with
  | nil =>
    intro i w e
    left
    have : (pe ++ slotsOf [] [])[i]? = pe[i]? := by simp [slotsOf]
    rw [this] at e
    exact (List.getElem?_eq_some_iff.mp e).1
  | @kept b bs v vs d ds k t ih =>
    intro i w e
    by_cases hi : i < pe.length
    · exact .inl hi
    · right
      have key := @ih (pre ++ [v]) (pe ++ [some (if b then .bor d else .fro d)]) (by simp [hl]) i w (by simpa [slotsOf] using e)
      rcases key with q | q
      · have hii : i = pe.length := by
          rw [List.length_append, List.length_singleton] at q
          omega
        subst hii
        have ew : w = if b then .bor d else .fro d := by
          have : (pe ++ slotsOf (b :: bs) (d :: ds))[pe.length]? = some (some (if b then .bor d else .fro d)) := by
            rw [List.getElem?_append_right (Nat.le_refl _)]
            simp [slotsOf]
          rw [this] at e
          exact (Option.some.inj (Option.some.inj e)).symm
        have hv : ((pre ++ v :: vs).map some)[pe.length]? = some (some v) := by
          rw [← hl, List.getElem?_map, List.getElem?_append_right (Nat.le_refl _)]
          simp
        subst ew
        subst hK
        cases b with
        | true => exact ⟨v, hv, .inl k⟩
        | false => exact ⟨v, hv, k⟩
      · simpa using q
  | @lent bs a vs d ds k nS t ih =>
    intro i w e
    by_cases hi : i < pe.length
    · exact .inl hi
    · right
      have key := @ih (pre ++ [.ref a]) (pe ++ [some (.bor d)]) (by simp [hl]) i w (by simpa [slotsOf] using e)
      rcases key with q | q
      · have hii : i = pe.length := by
          rw [List.length_append, List.length_singleton] at q
          omega
        subst hii
        have ew : w = .bor d := by
          have : (pe ++ slotsOf (true :: bs) (d :: ds))[pe.length]? = some (some (.bor d)) := by
            rw [List.getElem?_append_right (Nat.le_refl _)]
            simp [slotsOf]
          rw [this] at e
          exact (Option.some.inj (Option.some.inj e)).symm
        have hv : ((pre ++ V.ref a :: vs).map some)[pe.length]? = some (some (.ref a)) := by
          rw [← hl, List.getElem?_map, List.getElem?_append_right (Nat.le_refl _)]
          simp
        subst ew
        subst hK
        obtain ⟨o, ho⟩ := k.there
        exact ⟨_, hv, .inr ⟨a, o, rfl, k, by rw [hS]; exact nS, by rw [hF]; exact k.free, by rw [hH]; exact ho⟩⟩
      · simpa using q
theorem noOwn : ∀ {bs : List Bool} {ds : List PyData} (i : Nat) (d : PyData), (slotsOf bs ds)[i]? ≠ some (some (.own d))
  | [], _, i, d => by simp [slotsOf]
  | _ :: _, [], i, d => by simp [slotsOf]
  | b :: bs, x :: ds, 0, d => by cases b <;> simp [slotsOf]
  | b :: bs, x :: ds, i + 1, d => by
    have := noOwn (bs := bs) (ds := ds) i d
    simpa [slotsOf] using this
end
/-- the entry of such a def -/
theorem entry_rep {K : PySem.W.Frag} {F H : Hp} {bs : List Bool} {vs : List V} {ds : List PyData} {N : List Str} (sm : Same F H) (h : ArgOk K [] F H bs vs ds) : Rep (Gp K F H) F H (L2.start N vs) (entry N.length bs ds) () := by
  have hl := slotsOf_len h
  have hd : ds.length = vs.length := by rw [h.len.1, h.len.2]
  refine { ex := sm, inn := trivial, sF := fun a ha => absurd ha (by simp [Gp]), step0 := Same.refl F, step := fun a o _ q1 q2 => ⟨q1, q2⟩, len := ?_, slots := fun i w e => ?_, sep := fun i j a d e _ hi => ?_ }
  · unfold entry L2.start
    rw [List.length_append, List.length_append, List.length_map, List.length_replicate, List.length_replicate, hl, hd]
  · unfold entry at e
    by_cases hi : i < (slotsOf bs ds).length
    · rw [List.getElem?_append_left hi] at e
      have := entry_slot (Γ := Gp K F H) (N := N) rfl rfl rfl rfl (pre := []) (pe := []) rfl h i w (by simpa using e)
      rcases this with q | q
      · simp at q
      · have hz : (L2.start N vs)[i]? = ((([] : List V) ++ vs).map some)[i]? := by
          unfold L2.start
          rw [List.getElem?_append_left (by rw [List.length_map]; omega), List.nil_append]
        cases w <;> (unfold SlotOk at q ⊢; rw [hz]; exact q)
    · rw [List.getElem?_append_right (by omega), List.getElem?_replicate] at e
      split at e <;> cases e
  · exfalso
    unfold entry at hi
    by_cases hi2 : i < (slotsOf bs ds).length
    · rw [List.getElem?_append_left hi2] at hi
      exact noOwn i d hi
    · rw [List.getElem?_append_right (by omega), List.getElem?_replicate] at hi
      split at hi <;> cases hi
/-- the rule: a def without a tray that raises nothing -/
theorem fn_pure {P : Program} {w : World} {K : PySem.W.Frag} {mg : Str → Option Value} {base : Heap} {k : Nat} {f : Addr} {fd : FuncData} {N ps : List Str} {x qual : Str} {st : Stmt} {bs : List Bool} {body : MS Unit} (F : Fun K x qual st f fd) (S : FnScope N ps (defScope st)) (hn : bs.length = ps.length)
    (hb : ∀ (cdv : Value) (A : Around) (outer : List PySem.Env) (s : Shared) (H F0 : Hp) (E : XK), A.guards = some [] → Room k (A.deeper (PyProof.Rows.envOfC qual (defScope st) s.heap.objs.size f cdv)) →
      PSs (cxOf CX0 P w K mg base N qual (defScope st) f cdv A outer s H E).nox (defBody st) (denS (Gp K F0 H) body)) : FnG P w K mg base CX0 (k + 1) f fd ps (spP K bs (mFun N.length bs body)) := by
  refine Fn.okG F S (fun vs H Q E h => ?_) fun cdv A outer s H vs Q E hg hr h => ?_
  · obtain ⟨F0, ds, d, _, a, _⟩ := h
    rw [a.len.1, hn]
  · obtain ⟨F0, ds, d, sm, a, e, q⟩ := h
    refine ⟨_, (hb cdv A outer s H F0 E hg hr).nox, F0, entry N.length bs ds, (), ?_⟩
    unfold mFun at e
    have fin : ∀ {F' H' : Hp}, Fin (Gp K F0 H) F' H' () → Ext [] F0 H F' H' := fun {F' H'} z => ⟨z.step0, z.ex, fun b o _ hb => ?_, fun b o q1 q2 => (z.step b o (by simp [Gp]) q1 q2).1⟩
    · split at e
      · rename_i d1 t1 e1
        cases e
        exact ⟨.rt d, (), entry_rep sm a, e1, fun v F' H' z k => q v F' H' (fin z) k⟩
      · rename_i ρ1 t1 e1
        cases e
        exact ⟨.nx ρ1, (), entry_rep sm a, e1, fun σ' F' H' z _ => q _ F' H' (fin z.toFin) .non⟩
      · cases e
    · by_cases hz : F0 b = none
      · exact (z.step b o (by simp [Gp]) hz hb).2
      · cases z2 : F0 b with
        | none => exact absurd z2 hz
        | some u =>
          have e1 := sm b u z2
          rw [hb] at e1
          cases e1
          exact z.ex b o (z.step0 b o z2)
end Mi
/-! Calls of defs by their mirrors, own lists, loops, comprehensions. -/
namespace Mi
open PySem L2

/-! ### calls -/
/-- arguments as a callee takes them: true: whatever reads as data; false: kept data -/
def argOf (ρ : Env) : Bool → Rv → Option PyData
  | true, r => rd ρ r
  | false, .fro d => some d
  | false, _ => none
def args (ρ : Env) : List Bool → List Rv → Option (List PyData)
  | [], [] => some []
  | b :: bs, r :: rs => do
    let d ← argOf ρ b r
    let ds ← args ρ bs rs
    pure (d :: ds)
  | _, _ => none
section
variable {Γ : Gm} {F H F' H' : Hp} {σ : L2.St} {ρ : Env} {t t' : Γ.T}
theorem args_ok (R : Rep Γ F H σ ρ t) : ∀ {bs : List Bool} {vs : List V} {rs : List Rv} {ds : List PyData}, RvsOk Γ F σ vs rs → args ρ bs rs = some ds → ArgOk Γ.K Γ.S F H bs vs ds
  | [], _, _, _, .nil, e => by cases e; exact .nil
  | _ :: _, _, _, _, .nil, e => by cases e
  | [], _, _, _, .cons _ _, e => by cases e
  | b :: bs, _, _, _, .cons (r := r) h k, e => by
    unfold args at e
    obtain ⟨d, e1, e⟩ := bind_some e
    obtain ⟨ds, e2, e⟩ := bind_some e
    cases e
    have rest := args_ok R k e2
    cases b with
    | false =>
      cases r with
      | fro d' => cases e1; exact .kept h rest
      | tray _ => cases e1
      | loan i => cases e1
    | true =>
      cases r with
      | fro d' => cases e1; exact .kept h rest
      | tray _ => cases e1
      | loan i =>
        have h : σ[i]? = some (some _) := h
        unfold argOf rd at e1
        simp only at e1
        split at e1
        · rename_i q
          cases e1
          obtain ⟨a, e3, o, _, nS⟩ := R.slots i _ q
          rw [h] at e3; cases e3
          exact .lent o nS rest
        · rename_i q
          cases e1
          obtain ⟨w, e3, o⟩ := R.slots i _ q
          rw [h] at e3; cases e3
          rcases o with o | ⟨a, _, rfl, o, nS, _⟩
          · exact .kept o rest
          · exact .lent o nS rest
        · rename_i q
          cases e1
          obtain ⟨w, e3, o⟩ := R.slots i _ q
          rw [h] at e3; cases e3
          exact .kept o rest
        · cases e1
theorem ArgOk.drop {K : PySem.W.Frag} {S : List Addr} {F H : Hp} {bs : List Bool} {vs : List V} {ds : List PyData} (h : ArgOk K S F H bs vs ds) : ArgOk K [] F H bs vs ds := by
  induction h with
  | nil => exact .nil
  | kept k _ ih => exact .kept k ih
  | lent k _ _ ih => exact .lent k (by simp) ih
end
def mCallP {T : Type} (bs : List Bool) (m : List PyData → Option PyData) (fs : Env → T → Option (List Rv × T)) : ME T := fun ρ t => do
  let (rs, t1) ← fs ρ t
  let ds ← args ρ bs rs
  let d ← m ds
  pure (.fro d, t1)
section
variable {Γ : Gm} {X : Cx} {a b c : Expr} {es : List Expr} {pos p : Pos} {x : Str} {k : Nat} {f : Addr} {fd : FuncData} {ps : List Str} {bs : List Bool} {m : List PyData → Option PyData} {ga : Env → Γ.T → Option (List Rv × Γ.T)}
theorem w_callP {E : XK} (σ : L2.St) (H : Hp) (Q : VK) : den Γ (mCallP bs m ga) σ H Q → denA Γ ga σ H fun vs H1 => spP Γ.K bs m vs H1 Q E := by
  rintro ⟨F, ρ, t, r, t', R, e, q⟩
  obtain ⟨⟨rs, t1⟩, e1, e⟩ := bind_some e
  obtain ⟨ds, e2, e⟩ := bind_some e
  obtain ⟨d, e3, e⟩ := bind_some e
  cases e
  refine ⟨F, ρ, t, _, _, R, e1, fun vs F1 H1 R1 x1 k1 => ⟨F1, ds, d, R1.ex, (args_ok R1 k1 e2).drop, e3, fun v F2 H2 x2 k2 => ?_⟩⟩
  exact q v F2 H2 (R1.ext0 x2) (x1.then x2.wide (R1.ext0 x2)) k2
theorem pe_callP (G : FnG X.prog X.w X.K X.mg X.base CX0 k f fd ps (spP Γ.K bs m)) (hg : X.A.guards = some []) (hr : Room k X.A) (hgl : Gl X x) (hm : X.mg x = some (.ref f)) (hk : PySem.W.keepIn X.K (.ref f) = true) (hb : Binds X.K fd ps [])
    (ha : PA X (a :: es) (denA Γ ga)) (hdb : (x == ("__debug__" : Str)) = false := by decide) (he : starEach (a :: es) X.env = (false, eval a X.env) :: starEach es X.env := by rfl) (hpl : (backTo pos (starEach es X.env)).any (·.1) = false := by rfl) :
    PE X (.Call (.Name x p) (a :: es) [] pos) (den Γ (mCallP bs m ga)) := pe_w (pe_callG (E := E0) G hg hr hgl hm hk hb pass0 ha hdb he hpl) w_callP
theorem pe_callP0 (G : FnG X.prog X.w X.K X.mg X.base CX0 k f fd ps (spP Γ.K bs m)) (hg : X.A.guards = some []) (hr : Room k X.A) (hgl : Gl X x) (hm : X.mg x = some (.ref f)) (hk : PySem.W.keepIn X.K (.ref f) = true) (hb : Binds X.K fd ps [])
    (hdb : (x == ("__debug__" : Str)) = false := by decide) : PE X (.Call (.Name x p) [] [] pos) (den Γ (mCallP bs m mNil)) := pe_w (pe_callG0 (E := E0) G hg hr hgl hm hk hb pass0 hdb) fun σ H Q h => by
  obtain ⟨F, ρ, t, rs, t', R, e, q⟩ := w_callP (E := E0) σ H Q h
  cases e
  exact q [] F H R (Ext.refl R.ex) .nil
/-- by names: the values in the parameters' order are those at the places is -/
def pick {α : Type} (is : List Nat) (l : List α) : List α := is.filterMap fun i => l[i]?
def mPick {T : Type} (is : List Nat) (fs : Env → T → Option (List Rv × T)) : Env → T → Option (List Rv × T) := fun ρ t => match fs ρ t with
  | some (rs, t') => some (pick is rs, t')
  | none => none
theorem RvsOk.at {F : Hp} {σ : L2.St} : ∀ {vs : List V} {rs : List Rv}, RvsOk Γ F σ vs rs → ∀ i : Nat, (vs[i]? = none ∧ rs[i]? = none) ∨ ∃ v r, vs[i]? = some v ∧ rs[i]? = some r ∧ RvOk Γ F σ v r
  | _, _, .nil, i => .inl ⟨by simp, by simp⟩
  | _, _, .cons h _, 0 => .inr ⟨_, _, rfl, rfl, h⟩
  | _, _, .cons _ k, i + 1 => by
    rcases RvsOk.at k i with ⟨e1, e2⟩ | ⟨v, r, e1, e2, e3⟩
    · exact .inl ⟨by simpa using e1, by simpa using e2⟩
    · exact .inr ⟨v, r, by simpa using e1, by simpa using e2, e3⟩
theorem RvsOk.pick {F : Hp} {σ : L2.St} {vs : List V} {rs : List Rv} (h : RvsOk Γ F σ vs rs) : ∀ is : List Nat, RvsOk Γ F σ (Mi.pick is vs) (Mi.pick is rs)
  | [] => .nil
  | i :: is => by
    unfold Mi.pick
    rcases h.at i with ⟨e1, e2⟩ | ⟨v, r, e1, e2, e3⟩
    · rw [List.filterMap_cons, List.filterMap_cons, e1, e2]
      exact RvsOk.pick h is
    · rw [List.filterMap_cons, List.filterMap_cons, e1, e2]
      exact .cons e3 (RvsOk.pick h is)
theorem Vals.at : ∀ {vs : List V} {us : List Value}, Vals vs us → ∀ i : Nat, (vs[i]? = none ∧ us[i]? = none) ∨ ∃ v r, vs[i]? = some v ∧ us[i]? = some r ∧ RelV v r
  | _, _, .nil, i => .inl ⟨by simp, by simp⟩
  | _, _, .cons h _, 0 => .inr ⟨_, _, rfl, rfl, h⟩
  | _, _, .cons _ k, i + 1 => by
    rcases Vals.at k i with ⟨e1, e2⟩ | ⟨v, r, e1, e2, e3⟩
    · exact .inl ⟨by simpa using e1, by simpa using e2⟩
    · exact .inr ⟨v, r, by simpa using e1, by simpa using e2, e3⟩
theorem Vals.picked {vs : List V} {us : List Value} (h : Vals vs us) : ∀ is : List Nat, Vals (pick is vs) (pick is us)
  | [] => .nil
  | i :: is => by
    unfold pick
    rcases Vals.at h i with ⟨e1, e2⟩ | ⟨v, r, e1, e2, e3⟩
    · rw [List.filterMap_cons, List.filterMap_cons, e1, e2]
      exact Vals.picked h is
    · rw [List.filterMap_cons, List.filterMap_cons, e1, e2]
      exact .cons e3 (Vals.picked h is)
/-- how a call with keywords alone binds -/
def kwG {α : Type} (is : List Nat) (us ws : List α) : List α := match us with
  | [] => pick is ws
  | _ => []
theorem kb_of {x qual : Str} {st : Stmt} {ks : List Str} {K : PySem.W.Frag} (F : Fun K x qual st f fd) (is : List Nat) (hp : ps ≠ [])
    (h : ∀ (kV doc pm : Value) (an : Option Addr) (cdv ct : Value) (ws : List Value), (pick is ws).length = ps.length →
      bindArgs (PySem.W.fnOf x qual (defArgs st) (defBody st) (defScope st) .none kV doc pm an cdv ct) ⟨[], ks.zip ws⟩ = pure (ps.zip (pick is ws))) :
    KBinds K fd ps ks (kwG is) (kwG is) := by
  obtain ⟨oc, od, kV, doc, pm, an, cdv, ct, osl, rfl, _, _⟩ := F.ex
  refine ⟨fun s us ws _ hl => ?_, fun {us vs ws zs} r1 r2 => ?_⟩
  · cases us with
    | nil => exact .of_eq (h kV doc pm an cdv ct ws hl)
    | cons u us => exact absurd (List.eq_nil_of_length_eq_zero hl.symm) hp
  · cases r1 with
    | nil => exact Vals.picked r2 is
    | cons _ _ => exact .nil
theorem pe_callPK0 {kws : List Keyword} {ks : List Str} {is : List Nat} {g : List Value → List Value → List Value} (G : FnG X.prog X.w X.K X.mg X.base CX0 k f fd ps (spP Γ.K bs m)) (hg : X.A.guards = some []) (hr : Room k X.A) (hgl : Gl X x) (hm : X.mg x = some (.ref f)) (hk : PySem.W.keepIn X.K (.ref f) = true)
    (hb : KBinds X.K fd ps ks g (kwG is)) (hkw : PK X kws (denA Γ ga)) (hall : (backToKw pos (keywordEach kws X.env)).all (·.1.isSome) = true := by rfl) (hks : (backToKw pos (keywordEach kws X.env)).filterMap (·.1) = ks := by rfl)
    (hdb : (x == ("__debug__" : Str)) = false := by decide) (hpl : ((backTo pos (starEach [] X.env)).any (·.1) || (backToKw pos (keywordEach kws X.env)).any (·.1.isNone)) = false := by rfl) :
    PE X (.Call (.Name x p) [] kws pos) (den Γ (mCallP bs m (mPick is ga))) := pe_w (pe_callGK0 (E := E0) G hg hr hgl hm hk hb pass0 hkw hall hks hdb hpl) fun σ H Q h => by
  obtain ⟨F, ρ, t, rs, t', R, e, q⟩ := w_callP (E := E0) σ H Q h
  unfold mPick at e
  split at e
  · rename_i rs1 t1 e1
    cases e
    exact ⟨F, ρ, t, _, _, R, e1, fun vs F1 H1 R1 x1 k1 => q _ F1 H1 R1 x1 (k1.pick is)⟩
  · cases e

/-! ### one's own list -/
/-- the object in slot i has become d -/
theorem Rep.turn {F H : Hp} {σ : L2.St} {ρ : Env} {t : Γ.T} {i : Nat} {q : Addr} {d0 d : PyData} {o : HO} (R : Rep Γ F H σ ρ t) (hi : ρ[i]? = some (some (.own d0))) (hq : σ[i]? = some (some (.ref q))) (ho : Own Γ.K F (upd H q o) q d) : Rep Γ F (upd H q o) σ (ρ.set i (some (.own d))) t := by
  obtain ⟨a', e1, o1, old, nS⟩ := R.slots i _ hi
  rw [hq] at e1
  cases e1
  have fq := o1.free
  have loc : Γ.In t (upd H q o) := Γ.loc t H _ (fun b hb => upd_ne fun z : b = q => nS (z ▸ hb)) R.inn
  refine { ex := fun b u z => by rw [upd_ne (ne_of_none z fq)]; exact R.ex b u z, inn := loc, sF := R.sF, step0 := R.step0, step := fun b u n1 n2 n3 => ?_, len := by rw [List.length_set]; exact R.len, slots := fun j w e => ?_, sep := fun j k a d e hjk hj hk sj => ?_ }
  · obtain ⟨z1, z2⟩ := R.step b u n1 n2 n3
    have hb : b ≠ q := fun z => by subst z; rw [old] at n3; cases n3
    exact ⟨z1, by rw [upd_ne hb]; exact z2⟩
  · rcases get_set e with ⟨rfl, hw⟩ | ⟨hne, e2⟩
    · cases hw
      exact ⟨q, hq, ho, old, nS⟩
    · have s := R.slots j w e2
      cases w with
      | fro d => exact s
      | own d =>
        obtain ⟨u, z1, z2, z3, z4⟩ := s
        have hu : u ≠ q := fun z => by
          subst z
          exact R.sep i j u d0 d hne hi e2 hq z1
        exact ⟨u, z1, z2.mono (Same.refl F) (fun o h => by rw [upd_ne hu]; exact h) z2.free, z3, z4⟩
      | bor d =>
        obtain ⟨v, z1, z2⟩ := s
        refine ⟨v, z1, ?_⟩
        rcases z2 with z2 | ⟨u, o', e3, z2, z3, z4, z5⟩
        · exact .inl z2
        · have hu : u ≠ q := fun z => by subst z; rw [old] at z5; cases z5
          exact .inr ⟨u, o', e3, z2.mono (Same.refl F) (fun o h => by rw [upd_ne hu]; exact h) z2.free, z3, z4, z5⟩
      | tray _ => exact s
  · have back2 : ∀ {j : Nat} {d1 d' : PyData}, (ρ.set i (some (.own d1)))[j]? = some (some (.own d')) → ∃ d2, ρ[j]? = some (some (.own d2)) := fun {j d1 d'} h => by
      rcases get_set h with ⟨rfl, _⟩ | ⟨_, h2⟩
      · exact ⟨d0, hi⟩
      · exact ⟨d', h2⟩
    obtain ⟨d2, h2⟩ := back2 hj
    obtain ⟨d3, h3⟩ := back2 hk
    exact R.sep j k a d2 d3 hjk h2 h3 sj
/-- x.append(e) -/
def mApp {T : Type} (i : Nat) (f : ME T) : MS T := fun ρ t => match f ρ t with
  | some (.fro d, t') => match ρ[i]? with
    | some (some (.own (.list ds))) => if ds.length < sizeLine then some (.nx (ρ.set i (some (.own (.list (ds ++ [d]))))), t') else none
    | _ => none
  | _ => none
variable {fa : ME Γ.T}
theorem ps_appD {i : Nat} {o : Expr} {apos cpos : Pos} (ho : PE X o (tVar i)) (ha : PE X a (den Γ fa)) (hs1 : starEach [a] X.env = (false, eval a X.env) :: starEach [] X.env := by rfl) (hbase : attributeBase o "append" X.env (eval o X.env) = eval o X.env := by rfl)
    (hfew : ((backTo cpos (starEach [a] X.env)).all (fun x => !x.1) && (backToKw cpos (keywordEach [] X.env)).all (fun x => x.1.isSome) && decide ([a].length + ([] : List Keyword).length + (if ([] : List Keyword).isEmpty then 0 else 1) < 30)) = true := by rfl)
    (hline : (apos.endLine == cpos.line) = true := by rfl) (hplain : (backTo cpos (starEach [] X.env)).any (·.1) = false := by rfl)
    (hs : swapsWith (.Call (.Attribute o "append" apos) [a] [] cpos) none pos.line X.env = pure false := by rfl) : PS X (.Expr (.Call (.Attribute o "append" apos) [a] [] cpos) pos) (denS Γ (mApp i fa)) := by
  refine ps_w (ps_expr (pe_bm PySem.F.plainAttrs_list PySem.F.slot_list_append PySem.F.type_list_append mt_append ho (pa_cons ha pa_nil hs1) hbase hfew hline hs1 hplain) hs) fun D σ H => ?_
  rintro ⟨F, ρ, t, r, t', R, e, q⟩
  unfold mApp at e
  split at e
  · rename_i d t1 e1
    split at e
    · rename_i ds e2
      split at e
      · rename_i hz
        cases e
        obtain ⟨p1, h1, ⟨h2, ws, h3, h4⟩, old, nS⟩ := R.slots i _ e2
        refine ⟨_, h1, .inl ⟨rfl, ws, .of h3⟩, F, ρ, t, _, _, R, e1, fun v F1 H1 R1 x1 k1 => ?_⟩
        obtain ⟨p2, g1, ⟨g2, ws2, g3, g4⟩, _, _⟩ := R1.slots i _ e2
        rw [h1] at g1
        cases g1
        refine ⟨p1, ws2, v, rfl, rfl, g3, by rw [g4.length]; exact hz, ?_⟩
        exact q σ F1 _ (R1.turn e2 h1 ⟨g2, _, upd_same, g4.snoc k1⟩) x1.f
      · cases e
    · cases e
  · cases e
/-- a statement for which one's own list or dict is kept from now on -/
def mFz {T : Type} (i : Nat) (f : MS T) : MS T := fun ρ t => match ρ[i]? with
  | some (some (.own d)) => f (ρ.set i (some (.fro d))) t
  | _ => f ρ t
theorem Rep.fz {F H : Hp} {σ : L2.St} {ρ : Env} {t : Γ.T} {i : Nat} {d : PyData} (R : Rep Γ F H σ ρ t) (hi : ρ[i]? = some (some (.own d))) : ∃ F', Rep Γ F' H σ (ρ.set i (some (.fro d))) t ∧ Same F F' := by
  obtain ⟨q, e1, o, old, nS⟩ := R.slots i _ hi
  obtain ⟨u, hu, k⟩ := o.froze
  have hil : i < ρ.length := (List.getElem?_eq_some_iff.mp hi).1
  -- first the slot forgotten, then the object kept, then the slot told anew
  have un : ∀ {j : Nat} {w : Val}, (ρ.set i none)[j]? = some (some w) → i ≠ j ∧ ρ[j]? = some (some w) := fun {j w} e => by
    rcases get_set e with ⟨_, z⟩ | z
    · cases z
    · exact z
  have R0 : Rep Γ F H σ (ρ.set i none) t := { R.toFin with len := by rw [List.length_set]; exact R.len, slots := fun j w e => R.slots j w (un e).2, sep := fun j k a d e hjk hj hk => R.sep j k a d e hjk (un hj).2 (un hk).2 }
  have R1 := R0.froze o.free hu nS old fun j e hj hs => R.sep i j q d e (un hj).1 hi (un hj).2 e1 hs
  have R2 := R1.setF (i := i) k
  have es : σ.set i (some (.ref q)) = σ := by
    obtain ⟨hl, he⟩ := List.getElem?_eq_some_iff.mp e1
    rw [← he, List.set_getElem_self]
  rw [es, List.set_set] at R2
  exact ⟨_, R2, fun b w z => by rw [upd_ne (ne_of_none z o.free)]; exact z⟩
theorem ps_fz {st : Stmt} {f : MS Γ.T} (i : Nat) (h : PS X st (denS Γ f)) : PS X st (denS Γ (mFz i f)) := ps_w h fun D σ H => by
  rintro ⟨F, ρ, t, r, t', R, e, q⟩
  unfold mFz at e
  split at e
  · rename_i d e1
    obtain ⟨F1, R1, s1⟩ := R.fz e1
    exact ⟨F1, _, t, r, t', R1, e, post_more s1 q⟩
  · exact ⟨F, ρ, t, r, t', R, e, q⟩
end
end Mi
/-! Loops and comprehensions. -/
namespace Mi
open PySem L2

/-! ### what is walked -/
/-- the walk J gives these data, one behind another, as long as what is kept is kept -/
def Walks (Γ : Gm) (F : Hp) (J : It) (items : List PyData) : Prop := ∀ (i : Nat) (F' H' : Hp) (t : Γ.T), Same F F' → Fin Γ F' H' t →
  (∀ d, items[i]? = some d → J.go i H' ∧ ∀ x H'', J.yld i H' x H'' → ∃ F'', Ext [] F' H' F'' H'' ∧ Dq Γ.K F'' x d) ∧ (items.length = i → J.stop i H')
def denI (Γ : Gm) (f : Env → Γ.T → Option (List PyData × Γ.T)) : TI := fun σ H R => ∃ F ρ t items t', Rep Γ F H σ ρ t ∧ f ρ t = some (items, t') ∧
  ∀ F' H' J, Rep Γ F' H' σ ρ t' → Ext Γ.S F H F' H' → Walks Γ F' J items → R J H'
theorem pi_w {X : Cx} {tg e : Expr} {t t' : TI} (h : PI X tg e t) (w : ∀ σ H R, t' σ H R → t σ H R) : PI X tg e t' := ⟨fun pins s σ H R I q => h.run pins s σ H R I (w σ H R q)⟩
theorem pi_or {X : Cx} {tg e : Expr} {t t' : TI} (h : PI X tg e t) (h' : PI X tg e t') : PI X tg e (fun σ H R => t σ H R ∨ t' σ H R) := ⟨fun pins s σ H R I q => by
  rcases q with q | q
  · exact h.run pins s σ H R I q
  · exact h'.run pins s σ H R I q⟩
/-- a list or tuple that stays as it is: kept, or lent -/
def mItems {T : Type} (f : ME T) : Env → T → Option (List PyData × T) := fun ρ t => match f ρ t with
  | some (.fro d, t') => match itemsOf d with
    | some ds => some (ds, t')
    | none => none
  | some (.loan j, t') => match ρ[j]? with
    | some (some (.bor d)) => match itemsOf d with
      | some ds => some (ds, t')
      | none => none
    | _ => none
  | _ => none
section
variable {Γ : Gm} {X : Cx} {a tg : Expr} {pos p : Pos} {fa : ME Γ.T}
theorem stays {F F' H H' : Hp} {t t' : Γ.T} {v : V} {d : PyData} (s : Same F F') (R' : Fin Γ F' H' t')
    (h : Dq Γ.K F v d ∨ ∃ a o, v = .ref a ∧ Own Γ.K F H a d ∧ a ∉ Γ.S ∧ Γ.F0 a = none ∧ Γ.H0 a = some o) (R : Fin Γ F H t) : Dv Γ.K F' H' v d := by
  rcases h with h | ⟨q, o, rfl, h, h1, h2, h3⟩
  · exact (h.mono s).dv R'.ex
  · obtain ⟨z1, z2⟩ := R'.step q o h1 h2 h3
    obtain ⟨_, z3⟩ := R.step q o h1 h2 h3
    exact (h.mono s (fun u hu => by rw [z3] at hu; rw [z2]; exact hu) z1).dv
theorem sq_of {F H : Hp} {K : PySem.W.Frag} {v : V} {d : PyData} {ds : List PyData} (sm : Same F H) (h : Dv K F H v d) (e : itemsOf d = some ds) : ∃ q vs, v = .ref q ∧ DqA K F vs ds ∧ ((∃ es, d = .list es) ∧ SqL K H q vs ∨ (∃ es, d = .tuple es) ∧ SqT K H q vs) := by
  unfold itemsOf at e
  split at e
  · cases e; obtain ⟨q, vs, rfl, h1, k⟩ := h; exact ⟨q, vs, rfl, k, .inl ⟨⟨_, rfl⟩, .of h1⟩⟩
  · cases e; obtain ⟨q, vs, rfl, h1, k⟩ := h; exact ⟨q, vs, rfl, k, .inr ⟨⟨_, rfl⟩, same_t sm h1⟩⟩
  · cases e
theorem DqA.get' {K : PySem.W.Frag} {F : Hp} {vs : List V} {ds : List PyData} {i : Nat} {d : PyData} (k : DqA K F vs ds) (h : ds[i]? = some d) : ∃ v, vs[i]? = some v ∧ Dq K F v d := k.get h
/-- from data that stays -/
theorem walk_seq {F H : Hp} {t : Γ.T} {v : V} {d : PyData} {ds : List PyData} (R : Fin Γ F H t) (e : itemsOf d = some ds)
    (h : Dq Γ.K F v d ∨ ∃ a o, v = .ref a ∧ Own Γ.K F H a d ∧ a ∉ Γ.S ∧ Γ.F0 a = none ∧ Γ.H0 a = some o) :
    ∃ q, v = .ref q ∧ (((∃ xs, SqL Γ.K H q xs) ∧ Walks Γ F (Itl Γ.K q) ds) ∨ ((∃ xs, SqT Γ.K H q xs) ∧ Walks Γ F (Itt Γ.K q) ds)) := by
  obtain ⟨q, vs, rfl, k, hq⟩ := sq_of R.ex (stays (Same.refl F) R h R) e
  refine ⟨q, rfl, ?_⟩
  rcases hq with ⟨⟨es, rfl⟩, hq⟩ | ⟨⟨es, rfl⟩, hq⟩
  · refine .inl ⟨⟨vs, hq⟩, fun i F' H' t' s R' => ?_⟩
    obtain ⟨q2, vs2, e2, k2, hq2⟩ := sq_of R'.ex (stays s R' h R) e
    cases e2
    rcases hq2 with ⟨_, hq2⟩ | ⟨⟨es2, z⟩, _⟩
    · refine ⟨fun x hx => ?_, fun hi => ⟨vs2, hq2, by rw [k2.length]; exact Nat.le_of_eq hi⟩⟩
      obtain ⟨y, hy, ky⟩ := k2.get hx
      refine ⟨⟨vs2, y, hq2, hy⟩, fun x' H'' yl => ?_⟩
      obtain ⟨rfl, yl⟩ := yl
      have := yl _ hq2
      rw [hy] at this
      cases this
      exact ⟨F', Ext.refl R'.ex, ky⟩
    · cases z
  · refine .inr ⟨⟨vs, hq⟩, fun i F' H' t' s R' => ?_⟩
    obtain ⟨q2, vs2, e2, k2, hq2⟩ := sq_of R'.ex (stays s R' h R) e
    cases e2
    rcases hq2 with ⟨⟨es2, z⟩, _⟩ | ⟨_, hq2⟩
    · cases z
    · refine ⟨fun x hx => ?_, fun hi => ⟨vs2, hq2, by rw [k2.length]; exact Nat.le_of_eq hi⟩⟩
      obtain ⟨y, hy, ky⟩ := k2.get hx
      refine ⟨⟨vs2, y, hq2, hy⟩, fun x' H'' yl => ?_⟩
      obtain ⟨rfl, yl⟩ := yl
      have := yl _ hq2
      rw [hy] at this
      cases this
      exact ⟨F', Ext.refl R'.ex, ky⟩
/-- the value of a walked expression: kept or lent -/
theorem items_of {f : ME Γ.T} {ρ : Env} {t t' : Γ.T} {items : List PyData} (e : mItems f ρ t = some (items, t')) :
    ∃ r d, f ρ t = some (r, t') ∧ itemsOf d = some items ∧ ∀ F1 H1 σ v, Rep Γ F1 H1 σ ρ t' → RvOk Γ F1 σ v r → (Dq Γ.K F1 v d ∨ ∃ a o, v = .ref a ∧ Own Γ.K F1 H1 a d ∧ a ∉ Γ.S ∧ Γ.F0 a = none ∧ Γ.H0 a = some o) := by
  unfold mItems at e
  split at e
  · rename_i d t1 e1
    split at e
    · rename_i ds e2
      cases e
      exact ⟨_, d, e1, e2, fun F1 H1 σ v R1 k1 => .inl k1⟩
    · cases e
  · rename_i j t1 e1
    split at e
    · rename_i d e3
      split at e
      · rename_i ds e2
        cases e
        refine ⟨_, d, e1, e2, fun F1 H1 σ v R1 k1 => ?_⟩
        obtain ⟨u, z1, z2⟩ := R1.slots j _ e3
        have k1 : σ[j]? = some (some v) := k1
        rw [k1] at z1
        cases z1
        exact z2
      · cases e
    · cases e
  · cases e
theorem pi_seqD (hK : X.K = Γ.K) (h : PE X a (den Γ fa)) : PI X tg a (denI Γ (mItems fa)) := pi_w (pi_or (pi_list h) (pi_tup h)) fun σ H Rr => by
  rintro ⟨F, ρ, t, items, t', R, e, q⟩
  obtain ⟨r, d, e1, e2, hv⟩ := items_of e
  -- the value is one list or one tuple: which one stands in d
  cases d with
  | list es =>
    refine .inl ⟨F, ρ, t, r, t', R, e1, fun v F1 H1 R1 x1 k1 => ?_⟩
    obtain ⟨p1, rfl, hw⟩ := walk_seq R1.toFin e2 (hv F1 H1 σ v R1 k1)
    have dv := stays (Same.refl F1) R1.toFin (hv F1 H1 σ _ R1 k1) R1.toFin
    obtain ⟨p2, vs, z1, z2, z3⟩ := dv
    cases z1
    rcases hw with ⟨hx, hw⟩ | ⟨_, hw⟩
    · rw [hK]; exact ⟨p1, rfl, hx, q F1 H1 _ R1 x1 hw⟩
    · obtain ⟨q2, vs2, y1, k2, hq2⟩ := sq_of R1.ex (stays (Same.refl F1) R1.toFin (hv F1 H1 σ _ R1 k1) R1.toFin) e2
      cases y1
      obtain ⟨qq, rq, hw2⟩ := walk_seq R1.toFin e2 (hv F1 H1 σ _ R1 k1)
      cases rq
      rcases hq2 with ⟨_, hq2⟩ | ⟨⟨es2, z⟩, _⟩
      · have w2 : Walks Γ F1 (Itl Γ.K p1) items := by
          intro i F' H' t2 s R'
          obtain ⟨q3, vs3, y3, k3, hq3⟩ := sq_of R'.ex (stays s R' (hv F1 H1 σ _ R1 k1) R1.toFin) e2
          cases y3
          rcases hq3 with ⟨_, hq3⟩ | ⟨⟨es3, z⟩, _⟩
          · refine ⟨fun x hx => ?_, fun hi => ⟨vs3, hq3, by rw [k3.length]; exact Nat.le_of_eq hi⟩⟩
            obtain ⟨y, hy, ky⟩ := k3.get hx
            refine ⟨⟨vs3, y, hq3, hy⟩, fun x' H'' yl => ?_⟩
            obtain ⟨rfl, yl⟩ := yl
            have := yl _ hq3
            rw [hy] at this
            cases this
            exact ⟨F', Ext.refl R'.ex, ky⟩
          · cases z
        rw [hK]; exact ⟨p1, rfl, ⟨vs2, hq2⟩, q F1 H1 _ R1 x1 w2⟩
      · cases z
  | tuple es =>
    refine .inr ⟨F, ρ, t, r, t', R, e1, fun v F1 H1 R1 x1 k1 => ?_⟩
    obtain ⟨q2, vs2, rfl, k2, hq2⟩ := sq_of R1.ex (stays (Same.refl F1) R1.toFin (hv F1 H1 σ v R1 k1) R1.toFin) e2
    rcases hq2 with ⟨⟨es2, z⟩, _⟩ | ⟨_, hq2⟩
    · cases z
    · have w2 : Walks Γ F1 (Itt Γ.K q2) items := by
        intro i F' H' t2 s R'
        obtain ⟨q3, vs3, y3, k3, hq3⟩ := sq_of R'.ex (stays s R' (hv F1 H1 σ _ R1 k1) R1.toFin) e2
        cases y3
        rcases hq3 with ⟨⟨es3, z⟩, _⟩ | ⟨_, hq3⟩
        · cases z
        · refine ⟨fun x hx => ?_, fun hi => ⟨vs3, hq3, by rw [k3.length]; exact Nat.le_of_eq hi⟩⟩
          obtain ⟨y, hy, ky⟩ := k3.get hx
          refine ⟨⟨vs3, y, hq3, hy⟩, fun x' H'' yl => ?_⟩
          obtain ⟨rfl, yl⟩ := yl
          have := yl _ hq3
          rw [hy] at this
          cases this
          exact ⟨F', Ext.refl R'.ex, ky⟩
      rw [hK]; exact ⟨q2, rfl, ⟨vs2, hq2⟩, q F1 H1 _ R1 x1 w2⟩
  | none => cases e2
  | bool b => cases e2
  | int i => cases e2
  | str x => cases e2
  | dict es => cases e2

/-! ### range -/
def mRange1 {T : Type} (g : Env → T → Option (List Rv × T)) : Env → T → Option (List PyData × T) := fun ρ t => match g ρ t with
  | some ([.fro (.int j)], t') => if -(2 ^ 62) ≤ j ∧ j < 2 ^ 62 then some ((List.range j.toNat).map fun (k : Nat) => PyData.int (k : Int), t') else none
  | _ => none
def mRange2 {T : Type} (g : Env → T → Option (List Rv × T)) : Env → T → Option (List PyData × T) := fun ρ t => match g ρ t with
  | some ([.fro (.int i), .fro (.int j)], t') => if -(2 ^ 62) ≤ i ∧ i < 2 ^ 62 ∧ -(2 ^ 62) ≤ j ∧ j < 2 ^ 62 then some ((List.range (j - i).toNat).map fun (k : Nat) => PyData.int (i + (k : Int)), t') else none
  | _ => none
theorem walk_range {F : Hp} {lo : Int} {n : Nat} : Walks Γ F (Itr lo n) ((List.range n).map fun (k : Nat) => PyData.int (lo + (k : Int))) := fun i F' H' t s R => by
  refine ⟨fun d hd => ?_, fun hi => (show n ≤ i by rw [List.length_map, List.length_range] at hi; exact Nat.le_of_eq hi)⟩
  rw [List.getElem?_map] at hd
  cases e : (List.range n)[i]? with
  | none => rw [e] at hd; cases hd
  | some k =>
    rw [e] at hd
    cases hd
    obtain ⟨h1, h2⟩ := List.getElem?_eq_some_iff.mp e
    have hk : k = i := by rw [← h2]; simp
    subst hk
    refine ⟨(show k < n by simpa using h1), fun x H'' y => ?_⟩
    obtain ⟨rfl, rfl⟩ := y
    exact ⟨F', Ext.refl R.ex, .int _⟩
variable {b : Expr} {ga : Env → Γ.T → Option (List Rv × Γ.T)}
theorem pi_range1D (hg : Gl X "range") (hm : X.mg "range" = none) (ha : PA X [a] (denA Γ ga)) (hs : starEach [a] X.env = [(false, eval a X.env)] := by rfl) : PI X tg (.Call (.Name "range" p) [a] [] pos) (denI Γ (mRange1 ga)) := pi_w (pi_range1 hg hm ha hs) fun σ H Rr => by
  rintro ⟨F, ρ, t, items, t', R, e, q⟩
  unfold mRange1 at e
  split at e
  · rename_i j t1 e1
    split at e
    · rename_i hz
      cases e
      refine ⟨F, ρ, t, _, _, R, e1, fun vs F1 H1 R1 x1 k1 => ?_⟩
      cases k1 with
      | cons k1 kn =>
        cases kn
        cases (show Dq Γ.K F1 _ (.int j) from k1)
        refine ⟨j, rfl, hz.1, hz.2, q F1 H1 _ R1 x1 ?_⟩
        have := walk_range (Γ := Γ) (F := F1) (lo := 0) (n := j.toNat)
        simpa using this
    · cases e
  · cases e
theorem pi_range2D (hg : Gl X "range") (hm : X.mg "range" = none) (ha : PA X [a, b] (denA Γ ga)) (hs : starEach [a, b] X.env = [(false, eval a X.env), (false, eval b X.env)] := by rfl) (hs2 : starEach [b] X.env = [(false, eval b X.env)] := by rfl) : PI X tg (.Call (.Name "range" p) [a, b] [] pos) (denI Γ (mRange2 ga)) := pi_w (pi_range2 hg hm ha hs hs2) fun σ H Rr => by
  rintro ⟨F, ρ, t, items, t', R, e, q⟩
  unfold mRange2 at e
  split at e
  · rename_i i j t1 e1
    split at e
    · rename_i hz
      cases e
      refine ⟨F, ρ, t, _, _, R, e1, fun vs F1 H1 R1 x1 k1 => ?_⟩
      cases k1 with
      | cons k1 kn =>
        cases kn with
        | cons k2 kn =>
          cases kn
          cases (show Dq Γ.K F1 _ (.int i) from k1)
          cases (show Dq Γ.K F1 _ (.int j) from k2)
          exact ⟨i, j, rfl, hz, q F1 H1 _ R1 x1 walk_range⟩
    · cases e
  · cases e

/-! ### for -/
def forL {T : Type} (g : PyData → Env → Option Env) (body : MS T) : List PyData → MS T
  | [], ρ, t => some (.nx ρ, t)
  | d :: ds, ρ, t => match g d ρ with
    | none => none
    | some ρ1 => match body ρ1 t with
      | some (.nx ρ2, t2) => forL g body ds ρ2 t2
      | some (.ct ρ2, t2) => forL g body ds ρ2 t2
      | some (.bk ρ2, t2) => some (.nx ρ2, t2)
      | some (.rt x, t2) => some (.rt x, t2)
      | none => none
def mFor {T : Type} (its : Env → T → Option (List PyData × T)) (g : PyData → Env → Option Env) (body : MS T) : MS T := fun ρ t => match its ρ t with
  | some (items, t1) => forL g body items ρ t1
  | none => none
variable {its : Env → Γ.T → Option (List PyData × Γ.T)} {g : PyData → Env → Option Env} {sa : MS Γ.T} {ks : List Nat}
theorem ps_forD {body : List Stmt} (hp : PassesOwn (model X.prog X.w) X.A X.env X.xe) (hc : X.calm = true) (hi : PI X tg a (denI Γ its)) (hg : PG X tg (denG Γ ks g)) (hb : PSs X body (denS Γ sa))
    (hs : ∀ x, foldedSetIterable a X.env x = pure x := by intro _; rfl) : PS X (.For tg a body [] pos) (denS Γ (mFor its g sa)) := ps_w (ps_for hp hc hi hg hb hs) fun D σ H => by
  rintro ⟨F, ρ, t, r, t', R, e, q⟩
  unfold mFor at e
  split at e
  · rename_i items t1 e1
    refine ⟨F, ρ, t, items, t1, R, e1, fun F1 H1 J R1 x1 wk => ?_⟩
    refine ⟨fun i m σ2 H2 => m = items.length - i ∧ i ≤ items.length ∧ ∃ F2 ρ2 t2, Same F1 F2 ∧ Rep Γ F2 H2 σ2 ρ2 t2 ∧ forL g sa (items.drop i) ρ2 t2 = some (r, t'), ⟨items.length, by simp, Nat.zero_le _, F1, ρ, t1, Same.refl _, R1, by simpa using e⟩, ?_⟩
    rintro i m σ2 H2 ⟨rfl, hi, F2, ρ2, t2, s2, R2, e2⟩
    obtain ⟨w1, w2⟩ := wk i F2 H2 t2 s2 R2.toFin
    by_cases hlt : i < items.length
    · right
      have hd : items[i]? = some items[i] := List.getElem?_eq_getElem hlt
      obtain ⟨go, yl⟩ := w1 _ hd
      have eD : items.drop i = items[i] :: items.drop (i + 1) := List.drop_eq_getElem_cons hlt
      rw [eD] at e2
      unfold forL at e2
      split at e2
      · cases e2
      · rename_i ρ3 e3
        refine ⟨go, fun σ' H' => ∃ F' ρ' t2', Same F1 F' ∧ Rep Γ F' H' σ' ρ' t2' ∧ forL g sa (items.drop (i + 1)) ρ' t2' = some (r, t'), fun σ' H' hN => ?_, fun x H' hy => ?_⟩
        · obtain ⟨F', ρ', t2', n1, n2, n3⟩ := hN
          exact ⟨items.length - (i + 1), by omega, rfl, hlt, F', ρ', t2', n1, n2, n3⟩
        · obtain ⟨F3, x3, k3⟩ := yl x H' hy
          refine ⟨F3, ρ2, t2, _, ρ3, R2.ext0 x3, k3, e3, fun σ3 R3 _ => ?_⟩
          have s3 : Same F1 F3 := s2.trans x3.f
          split at e2
          · rename_i ρ4 t4 e4
            exact ⟨F3, ρ3, t2, _, _, R3, e4, fun σ4 F4 H4 R4 s4 => ⟨F4, ρ4, t4, s3.trans s4, R4, e2⟩⟩
          · rename_i ρ4 t4 e4
            exact ⟨F3, ρ3, t2, _, _, R3, e4, fun σ4 F4 H4 R4 s4 => ⟨F4, ρ4, t4, s3.trans s4, R4, e2⟩⟩
          · rename_i ρ4 t4 e4
            cases e2
            exact ⟨F3, ρ3, t2, _, _, R3, e4, fun σ4 F4 H4 R4 s4 => q σ4 F4 H4 R4 ((x1.f.trans s3).trans s4)⟩
          · rename_i x4 t4 e4
            cases e2
            exact ⟨F3, ρ3, t2, _, _, R3, e4, q⟩
          · cases e2
    · have e0 : i = items.length := by omega
      subst e0
      rw [List.drop_length] at e2
      cases e2
      exact .inl ⟨w2 rfl, q σ2 F2 H2 R2 (x1.f.trans s2)⟩
  · cases e

/-! ### while -/
def whileN {T : Type} (c : Env → T → Option (Bool × T)) (body : MS T) : Nat → MS T
  | 0, _, _ => none
  | n + 1, ρ, t => match c ρ t with
    | some (true, t1) => match body ρ t1 with
      | some (.nx ρ2, t2) => whileN c body n ρ2 t2
      | some (.ct ρ2, t2) => whileN c body n ρ2 t2
      | some (.bk ρ2, t2) => some (.nx ρ2, t2)
      | some (.rt x, t2) => some (.rt x, t2)
      | none => none
    | some (false, t1) => some (.nx ρ, t1)
    | none => none
variable {tc : Env → Γ.T → Option (Bool × Γ.T)}
/-- a while that ends within n turns -/
theorem ps_whileD {body : List Stmt} (n : Nat) (hp : PassesOwn (model X.prog X.w) X.A X.env X.xe) (hc : PT X a (denT Γ tc)) (hb : PSs X body (denS Γ sa)) : PS X (.While a body [] pos) (denS Γ (whileN tc sa n)) := ps_w (ps_while hp hc hb) fun D σ H => by
  rintro ⟨F, ρ, t, r, t', R, e, q⟩
  refine ⟨fun m σ2 H2 => ∃ F2 ρ2 t2, Same F F2 ∧ Rep Γ F2 H2 σ2 ρ2 t2 ∧ whileN tc sa m ρ2 t2 = some (r, t'), ⟨n, F, ρ, t, Same.refl _, R, e⟩, ?_⟩
  rintro m σ2 H2 ⟨F2, ρ2, t2, s2, R2, e2⟩
  cases m with
  | zero => cases e2
  | succ m =>
    unfold whileN at e2
    split at e2
    · rename_i t3 e3
      refine ⟨F2, ρ2, t2, _, _, R2, e3, fun F3 H3 R3 x3 => iteT ⟨fun σ' H' => ∃ F' ρ' t2', Same F F' ∧ Rep Γ F' H' σ' ρ' t2' ∧ whileN tc sa m ρ' t2' = some (r, t'), fun σ' H' hN => ⟨m, Nat.lt_succ_self m, hN⟩, ?_⟩⟩
      have s3 : Same F F3 := s2.trans x3.f
      split at e2
      · rename_i ρ4 t4 e4
        exact ⟨F3, ρ2, t3, _, _, R3, e4, fun σ4 F4 H4 R4 s4 => ⟨F4, ρ4, t4, s3.trans s4, R4, e2⟩⟩
      · rename_i ρ4 t4 e4
        exact ⟨F3, ρ2, t3, _, _, R3, e4, fun σ4 F4 H4 R4 s4 => ⟨F4, ρ4, t4, s3.trans s4, R4, e2⟩⟩
      · rename_i ρ4 t4 e4
        cases e2
        exact ⟨F3, ρ2, t3, _, _, R3, e4, fun σ4 F4 H4 R4 s4 => q σ4 F4 H4 R4 (s3.trans s4)⟩
      · rename_i x4 t4 e4
        cases e2
        exact ⟨F3, ρ2, t3, _, _, R3, e4, q⟩
      · cases e2
    · rename_i t3 e3
      cases e2
      exact ⟨F2, ρ2, t2, _, _, R2, e3, fun F3 H3 R3 x3 => iteF (q σ2 F3 H3 R3 (s2.trans x3.f))⟩
    · cases e2

/-! ### comprehensions -/
def wipeR (ρ : Env) : List Nat → Env
  | [] => ρ
  | v :: vs => (wipeR ρ vs).set v none
theorem wipeR_len (ρ : Env) : ∀ vs : List Nat, (wipeR ρ vs).length = ρ.length
  | [] => rfl
  | v :: vs => by unfold wipeR; rw [List.length_set, wipeR_len ρ vs]
theorem wipeR_get {ρ : Env} {i : Nat} {w : Val} : ∀ {vs : List Nat}, (wipeR ρ vs)[i]? = some (some w) → ρ[i]? = some (some w) ∧ i ∉ vs
  | [], h => ⟨h, by simp⟩
  | v :: vs, h => by
    unfold wipeR at h
    rcases get_set h with ⟨_, z⟩ | ⟨hne, z⟩
    · cases z
    · obtain ⟨z1, z2⟩ := wipeR_get z
      exact ⟨z1, fun z => (List.mem_cons.mp z).elim (fun e => hne e.symm) z2⟩
theorem Rep.wiped {F H : Hp} {σ : L2.St} {ρ : Env} {t : Γ.T} (R : Rep Γ F H σ ρ t) (vs : List Nat) : Rep Γ F H (wipe σ vs) (wipeR ρ vs) t := by
  have back : ∀ {i : Nat} {w : Val} {v : V}, (wipeR ρ vs)[i]? = some (some w) → σ[i]? = some (some v) → (wipe σ vs)[i]? = some (some v) := fun {i w v} h e => by rw [wipe_out (wipeR_get h).2]; exact e
  refine { R.toFin with len := by rw [wipeR_len, wipe_length]; exact R.len, slots := fun i w h => ?_, sep := fun i j a d e hij hi hj si sj => ?_ }
  · have s := R.slots i w (wipeR_get h).1
    cases w with
    | fro d => obtain ⟨v, e, q⟩ := s; exact ⟨v, back h e, q⟩
    | own d => obtain ⟨v, e, q⟩ := s; exact ⟨v, back h e, q⟩
    | bor d => obtain ⟨v, e, q⟩ := s; exact ⟨v, back h e, q⟩
    | tray _ => exact back h s
  · rw [wipe_out (wipeR_get hi).2] at si
    rw [wipe_out (wipeR_get hj).2] at sj
    exact R.sep i j a d e hij (wipeR_get hi).1 (wipeR_get hj).1 si sj
def lcL {T : Type} (g : PyData → Env → Option Env) (c : Env → T → Option (Bool × T)) (f : ME T) (ρ : Env) : List PyData → List PyData → T → Option (List PyData × T)
  | [], acc, t => some (acc, t)
  | d :: ds, acc, t => match g d ρ with
    | none => none
    | some ρ1 => match c ρ1 t with
      | some (true, t1) => match f ρ1 t1 with
        | some (.fro x, t2) => if acc.length < sizeLine then lcL g c f ρ ds (acc ++ [x]) t2 else none
        | _ => none
      | some (false, t1) => lcL g c f ρ ds acc t1
      | none => none
def mYes {T : Type} : Env → T → Option (Bool × T) := fun _ t => some (true, t)
def mLc {T : Type} (its : Env → T → Option (List PyData × T)) (g : PyData → Env → Option Env) (c : Env → T → Option (Bool × T)) (f : ME T) (vs : List Nat) : Env → T → Option (PyData × T) := fun ρ t => match its ρ t with
  | some (items, t1) => match lcL g c f (wipeR ρ vs) items [] t1 with
    | some (ds, t2) => some (.list ds, t2)
    | none => none
  | none => none
theorem pts_w {e : List Expr} {t t' : TT} (h : PTs X e t) (w : ∀ σ H Q, t' σ H Q → t σ H Q) : PTs X e t' := ⟨fun pins s σ H Q I q => h.run pins s σ H Q I (w σ H Q q)⟩
theorem pts_nilD : PTs X [] (denT Γ mYes) := pts_w pts_nil fun σ H Q => by
  rintro ⟨F, ρ, t, r, t', R, e, q⟩
  cases e
  exact q F H R (Ext.refl R.ex)
theorem pts_oneD (h : PT X a (denT Γ tc)) : PTs X [a] (denT Γ tc) := pts_one h
variable {vs : List Nat} {fc : ME Γ.T}
theorem w_lc (σ : L2.St) (H : Hp) (Q : VK) : denL Γ (mLc its g tc fc vs) σ H Q → tLc (denI Γ its) (denG Γ vs g) (denT Γ tc) (den Γ fc) vs σ H Q := by
  rintro ⟨F, ρ, t, r, t', R, e, q⟩
  unfold mLc at e
  split at e
  · rename_i items t1 e1
    split at e
    · rename_i ds t2 e2
      cases e
      refine ⟨F, ρ, t, items, t1, R, e1, fun F1 H1 J R1 x1 wk D hD => ?_⟩
      have oldD := R1.toFin.old hD
      have fD1 : F1 D = none := R1.ex.free hD
      refine ⟨fun i m H2 => m = items.length - i ∧ i ≤ items.length ∧ ∃ F2 t2 acc xs, Ext Γ.S F1 H1 F2 H2 ∧ Rep Γ F2 H2 (wipe σ vs) (wipeR ρ vs) t2 ∧ H2 D = some (.lst xs) ∧ F2 D = none ∧ DqA Γ.K F2 xs acc ∧ lcL g tc fc (wipeR ρ vs) (items.drop i) acc t2 = some (ds, t'),
        ⟨items.length, by simp, Nat.zero_le _, F1, t1, [], [], Ext.new R1.ex hD, (R1.ext0 (Ext.new R1.ex hD)).wiped vs, upd_same, fD1, .nil, by simpa using e2⟩, ?_⟩
      rintro i m H2 ⟨rfl, hi, F2, t2, acc, xs, x2, R2, hD2, fD2, k2, e3⟩
      obtain ⟨w1, w2⟩ := wk i F2 H2 t2 x2.f R2.toFin
      by_cases hlt : i < items.length
      · right
        have hd : items[i]? = some items[i] := List.getElem?_eq_getElem hlt
        obtain ⟨go, yl⟩ := w1 _ hd
        have eD : items.drop i = items[i] :: items.drop (i + 1) := List.drop_eq_getElem_cons hlt
        rw [eD] at e3
        unfold lcL at e3
        split at e3
        · cases e3
        · rename_i ρ3 e4
          refine ⟨go, fun H' => ∃ F' t2' acc' xs', Ext Γ.S F1 H1 F' H' ∧ Rep Γ F' H' (wipe σ vs) (wipeR ρ vs) t2' ∧ H' D = some (.lst xs') ∧ F' D = none ∧ DqA Γ.K F' xs' acc' ∧ lcL g tc fc (wipeR ρ vs) (items.drop (i + 1)) acc' t2' = some (ds, t'), fun H' hN => ?_, fun x H' hy => ?_⟩
          · obtain ⟨F', t2', acc', xs', n⟩ := hN
            exact ⟨items.length - (i + 1), by omega, rfl, hlt, F', t2', acc', xs', n⟩
          · obtain ⟨F3, x3, k3⟩ := yl x H' hy
            have R3 := R2.ext0 x3
            refine ⟨F3, wipeR ρ vs, t2, _, ρ3, R3, k3, e4, fun σ3 R4 w3 => ?_⟩
            have ww : wipe (wipe σ vs) vs = wipe σ vs := by
              have gen : ∀ (us : List Nat), (∀ u ∈ us, u ∈ vs) → wipe (wipe σ us) vs = wipe σ vs := by
                intro us
                induction us with
                | nil => intro _; rfl
                | cons u us ih =>
                  intro hu
                  show wipe ((wipe σ us).set u none) vs = wipe σ vs
                  rw [wipe_put (hu u List.mem_cons_self), ih fun z hz => hu z (List.mem_cons_of_mem _ hz)]
              exact gen vs fun _ h => h
            refine ⟨w3.trans ww, ?_⟩
            have x23 : Ext Γ.S F1 H1 F3 H' := x2.then x3.wide R3
            have dH : ∀ {F5 H5 : Hp} {ρ5 : Env} {σ5 : L2.St} {t5 : Γ.T}, Ext Γ.S F3 H' F5 H5 → Rep Γ F5 H5 σ5 ρ5 t5 → H5 D = some (.lst xs) ∧ F5 D = none := fun {F5 H5 ρ5 σ5 t5} x5 R5 =>
              ⟨x5.h D _ oldD.2 (x3.h D _ (by simp) hD2), x5.n D (.lst xs) (x3.n D _ fD2 hD2) (x3.h D _ (by simp) hD2)⟩
            split at e3
            · rename_i t4 e5
              refine ⟨F3, ρ3, t2, _, _, R4, e5, fun F5 H5 R5 x5 => iteT ?_⟩
              split at e3
              · rename_i y t6 e6
                split at e3
                · rename_i hz
                  refine ⟨F5, ρ3, t4, _, _, R5, e6, fun yv F6 H6 R6 x6 k6 => ?_⟩
                  have x56 : Ext Γ.S F3 H' F6 H6 := x5.then x6 R6
                  obtain ⟨d1, d2⟩ := dH x56 R6
                  have k26 : DqA Γ.K F6 xs acc := (k2.mono x3.f).mono x56.f
                  refine ⟨xs, d1, by rw [k26.length]; exact hz, F6, t6, acc ++ [y], xs ++ [yv], ?_, ?_, upd_same, d2, k26.snoc k6, e3⟩
                  · have x16 := x23.then x56 R6
                    exact ⟨x16.f, fun b u z => by rw [upd_ne (ne_of_none z d2)]; exact x16.e b u z, fun b u z1 z2 => by rw [upd_ne (ne_of_none z2 hD)]; exact x16.h b u z1 z2, fun b u z1 z2 => x16.n b u z1 z2⟩
                  · have Rb : Rep Γ F6 H6 (wipe σ vs) (wipeR ρ vs) t6 := R3.ext x56 R6.inn R6.sF
                    exact { ex := fun b u z => by rw [upd_ne (ne_of_none z d2)]; exact Rb.ex b u z, inn := Γ.loc t6 H6 _ (fun b hb => upd_ne fun z : b = D => oldD.2 (z ▸ hb)) Rb.inn, sF := Rb.sF, step0 := Rb.step0,
                            step := fun b u n1 n2 n3 => by
                              obtain ⟨z1, z2⟩ := Rb.step b u n1 n2 n3
                              exact ⟨z1, by rw [upd_ne (fun z : b = D => by subst z; rw [oldD.1] at n3; cases n3)]; exact z2⟩
                            len := Rb.len
                            slots := fun j w hw => by
                              have s := Rb.slots j w hw
                              have s0 := (R1.wiped vs).slots j w hw
                              cases w with
                              | fro d => exact s
                              | own d =>
                                obtain ⟨u, z1, z2, z3⟩ := s
                                obtain ⟨u0, y1, y2, _⟩ := s0
                                rw [z1] at y1
                                cases y1
                                obtain ⟨o, ho⟩ := y2.there
                                exact ⟨u, z1, z2.mono (Same.refl _) (fun o' h => by rw [upd_ne (ne_of_none ho hD)]; exact h) z2.free, z3⟩
                              | bor d =>
                                obtain ⟨v, z1, z2⟩ := s
                                refine ⟨v, z1, ?_⟩
                                rcases z2 with z2 | ⟨u, o', e3', z2, z3, z4, z5⟩
                                · exact .inl z2
                                · exact .inr ⟨u, o', e3', z2.mono (Same.refl _) (fun o h => by rw [upd_ne (fun z : u = D => by subst z; rw [oldD.1] at z5; cases z5)]; exact h) z2.free, z3, z4, z5⟩
                              | tray _ => exact s
                            sep := Rb.sep }
                · cases e3
              · cases e3
            · rename_i t4 e5
              refine ⟨F3, ρ3, t2, _, _, R4, e5, fun F5 H5 R5 x5 => iteF ?_⟩
              obtain ⟨d1, d2⟩ := dH x5 R5
              exact ⟨F5, t4, acc, xs, x23.then x5 R5, R3.ext x5 R5.inn R5.sF, d1, d2, (k2.mono x3.f).mono x5.f, e3⟩
            · cases e3
      · have e0 : i = items.length := by omega
        subst e0
        rw [List.drop_length] at e3
        cases e3
        refine .inl ⟨w2 rfl, ?_⟩
        have Rf : Rep Γ F2 H2 σ ρ t' := R1.ext x2 R2.inn R2.sF
        refine q D F2 H2 Rf (x1.then x2 Rf) ⟨⟨fD2, xs, hD2, k2⟩, old_none x1 R1 hD, oldD.1, oldD.2, fun j w hw hs => ?_⟩
        obtain ⟨u, z1, z2, _⟩ := R1.slots j _ hw
        rw [hs] at z1
        cases z1
        obtain ⟨o, ho⟩ := z2.there
        rw [hD] at ho
        cases ho
    · cases e
  · cases e
theorem pe_lcD {elt iter : Expr} {ifs : List Expr} {scope : Scope} {own : List (Str × Nat)} (hc : X.calm = true) (hN : X.N.Nodup) (hi : PI X tg iter (denI Γ its)) (ok : BlkOk X.N X.env.scope scope own)
    (hg : ∀ (s : Shared) (H : Hp) (C : Addr) (cl : List (Str × Addr)) (fp : List Addr), PG (X.blk s H scope (compEnvC scope cl C X.env) fp) tg (denG Γ (own.map (·.2)) g)) (ht : ∀ (s : Shared) (H : Hp) (C : Addr) (cl : List (Str × Addr)) (fp : List Addr), PTs (X.blk s H scope (compEnvC scope cl C X.env) fp) ifs (denT Γ tc))
    (he : ∀ (s : Shared) (H : Hp) (C : Addr) (cl : List (Str × Addr)) (fp : List Addr), PE (X.blk s H scope (compEnvC scope cl C X.env) fp) elt (den Γ fc)) (hs : ∀ x, foldedSetIterable iter X.env x = pure x := by intro _; rfl) :
    PE X (.ListComp elt [⟨tg, iter, ifs, 0⟩] scope pos) (denL Γ (mLc its g tc fc (own.map (·.2)))) := pe_w (pe_lc hc hN hi ok hg ht he hs) w_lc
/-- name = [..] on one line -/
theorem ps_lcD {i : Nat} {y : Str} {py spos : Pos} {elt iter : Expr} {ifs : List Expr} {scope : Scope} {own : List (Str × Nat)} (hc : X.calm = true) (hN : X.N.Nodup) (hy : X.N[i]? = some y) (hyl : X.env.scope.names.lookup y = some .local)
    (hsw : swapsWith (.ListComp elt [⟨tg, iter, ifs, 0⟩] scope pos) (some (.Name y py)) spos.line X.env = pure true) (hi : PI X tg iter (denI Γ its)) (ok : BlkOk X.N X.env.scope scope own)
    (hg : ∀ (s : Shared) (H : Hp) (C : Addr) (cl : List (Str × Addr)) (fp : List Addr), PG (X.blk s H scope (compEnvC scope cl C X.env) fp) tg (denG Γ (own.map (·.2)) g)) (ht : ∀ (s : Shared) (H : Hp) (C : Addr) (cl : List (Str × Addr)) (fp : List Addr), PTs (X.blk s H scope (compEnvC scope cl C X.env) fp) ifs (denT Γ tc))
    (he : ∀ (s : Shared) (H : Hp) (C : Addr) (cl : List (Str × Addr)) (fp : List Addr), PE (X.blk s H scope (compEnvC scope cl C X.env) fp) elt (den Γ fc)) (hs : ∀ x, foldedSetIterable iter X.env x = pure x := by intro _; rfl) :
    PS X (.Assign [.Name y py] (.ListComp elt [⟨tg, iter, ifs, 0⟩] scope pos) spos) (denS Γ (mSet i (mNew (mLc its g tc fc (own.map (·.2)))))) := ps_w (ps_setLc hc hN hy hyl hsw hi ok hg ht he hs) fun D σ H => by
  rintro ⟨F, ρ, t, r, t', R, e, q⟩
  unfold mSet at e
  split at e
  · rename_i w t1 e1
    unfold mNew at e1
    split at e1
    · rename_i d t2 e2
      cases e1
      cases e
      refine w_lc σ H _ ⟨F, ρ, t, _, _, R, e2, fun p1 F1 H1 R1 x1 fr => ?_⟩
      exact q _ F1 H1 (NsOk.step (ws := []) (vs := []) R1 (.own fr .nil fun j e z => by simp at z)).1 x1.f
    · cases e1
  · cases e
end
end Mi
/-! enumerate over lists and tuples; repr. -/
namespace PySem
/-- enumerate of whatever an iterator can be made of -/
theorem enum_made {v : Value} {ob : Obj} {HH : Heap → Prop} (B : Begins v ob HH) :
    Meets (Builtin.«enumerate.__new__» ⟨[.type "enumerate", v], []⟩) (fun _ R s => HH s.heap ∧
      R (.ok (.ret (.ref (s.heap.push ob).objs.size))) { s with heap := (s.heap.push ob).push { cls := .type "enumerate", data := .fields #[.none, .bool false, .ref s.heap.objs.size, rawInt 0, .none, .none] } }) :=
  .of_wp fun prog w A R s given => by
    obtain ⟨hh, gg, dd, kk, oo⟩ := s
    have sure := sub_enumerate
    have it : ∀ {A' : Around} {E Q : Value → Shared → Prop}, Q (.ref hh.objs.size) ⟨hh.push ob, gg, dd, kk, oo⟩ → wpAny (model prog w) A' (pyIter v) Q E ⟨hh, gg, dd, kk, oo⟩ :=
      fun z => B.iter prog w _ _ ⟨hh, gg, dd, kk, oo⟩ _ given.1 z
    wp_walk using it
    refine wpAny_stack_any fun frames => wpAny_pure ?_
    split
    · rename_i cc _ _ _ _ _
      cases (cc == Value.type "enumerate") <;> (wp_walk using it; exact ⟨_, rfl, given.2⟩)
    · wp_walk using it
      exact ⟨_, rfl, given.2⟩
theorem enum_call {prog : Program} {w : World} {A : Around} {E : Value → Shared → Prop} {s : Shared} {v : Value} {ob : Obj} {HH : Heap → Prop} {Q : Value → Shared → Prop} (B : Begins v ob HH) (given : HH s.heap)
    (next : ∀ h', IsEnum h' (s.heap.objs.size + 1) s.heap.objs.size 0 .none → h'.get? s.heap.objs.size = some ob → (∀ b o, s.heap.get? b = some o → h'.get? b = some o) → Q (.ref (s.heap.objs.size + 1)) { s with heap := h' }) :
    wpAny (model prog w) A (call (.type "enumerate") [v]) Q E s := by
  refine callType_new F.called_enumerate (by decide) (F.typeCall_enumerate_1 _) (F.newCall_enumerate_1 _) (fun o => F.args_object_init_2 o _) F.entry_enumerate_new (enum_made B) ⟨given, ?_⟩
  have size1 : (s.heap.push ob).objs.size = s.heap.objs.size + 1 := Heap.size_push ..
  have at0 : (s.heap.push ob).get? s.heap.objs.size = some ob := Heap.get?_push_size _ B.free
  have at1 := Heap.get?_push_size (s.heap.push ob) (o := { cls := .type "enumerate", data := .fields #[.none, .bool false, .ref s.heap.objs.size, rawInt 0, .none, .none] }) rfl
  show _ ∧ _
  rw [size1] at at1 ⊢
  exact ⟨⟨_, at1, rfl⟩, next _ at1 (Heap.get?_push_of_some _ at0) fun b o z => Heap.get?_push_of_some _ (Heap.get?_push_of_some _ z)⟩
end PySem
namespace Mi
open PySem L2

/-- the tuple at a, each item in a new pair with its place -/
def ItE (K : PySem.W.Frag) (a : Addr) : It :=
  ⟨fun i H => ∃ (xs : List V) (x : V), SqT K H a xs ∧ xs[i]? = some x, fun i H v H' => ∃ T x, v = .ref T ∧ H T = none ∧ H' = upd H T (.tup [.int (i : Nat), x]) ∧ ∀ xs, SqT K H a xs → xs[i]? = some x, fun i H => ∃ xs : List V, SqT K H a xs ∧ xs.length = i⟩
theorem turn_E {P : Program} {w : World} {K : PySem.W.Frag} {elts : List Expr} {kk : Nat} {tpos : Pos} (a e it : Addr) :
    Turn P w K (.Tuple elts kk tpos) (ItE K a) [e, it] e (fun i h => (∃ old, IsEnum h e it ((i : Nat) : Int) old) ∧ h.IsTupleIter it a i ∧ e ≠ it) where
  mem := List.mem_cons_self
  obj := fun i h ⟨⟨old, he⟩, ⟨o, ho, _, hd⟩, _⟩ b hb => by
    rcases List.mem_cons.mp hb with z | z
    · rw [z]; exact ⟨_, he, fun v q => nomatch q⟩
    · rw [List.mem_singleton.mp z]; exact ⟨o, ho, fun v q => by rw [hd] at q; cases q⟩
  keep := fun i h h' ⟨⟨old, he⟩, hi, hne⟩ k => ⟨⟨old, k e (List.mem_cons_self) _ he⟩, hi.at fun o q => k it (List.mem_cons_of_mem _ (List.mem_singleton.mpr rfl)) o q, hne⟩
  item := fun X hP hw hK hc i pins s σ H E I hf ⟨⟨old, he⟩, hit, hne⟩ ⟨xs, x, hq, hx⟩ => by
    subst hP hw hK
    obtain ⟨its, rv, pt, _⟩ := I.tuple hq
    obtain ⟨u, hu, ru⟩ := rv.get hx
    have le : e < s.heap.objs.size := Heap.lt_size he
    have li : it < s.heap.objs.size := by obtain ⟨_, q, _⟩ := hit; exact Heap.lt_size q
    have tT : s.heap.IsTuple a its.toArray := pt
    have hat : a ≠ it := fun z => by
      obtain ⟨o1, g1, c1, _⟩ := tT
      obtain ⟨o2, g2, c2, _⟩ := hit
      rw [z, g2] at g1
      cases g1
      rw [c2] at c1
      exact absurd c1 (by simp)
    have hae : a ≠ e := fun z => by
      obtain ⟨o1, g1, c1, _⟩ := tT
      rw [z, he] at g1
      cases g1
      exact absurd c1 (by simp)
    have ilt : i < its.toArray.size := by
      have := (List.getElem?_eq_some_iff.mp hu).1
      simpa using this
    refine wpAny_pyNext_enum_itemC (Draws.tuple (A := X.A.in1) (I.ok.hd hc) it a hat its.toArray) he ⟨hit, tT⟩ ilt hne (by simp [hne, hae.symm]) fun y h' tk hy ho st' hT _ hk => ?_
    have ey : y = u := by
      have z : its.toArray[i]? = some u := by simpa using hu
      have z2 : its.toArray[i]? = some y := hy
      rw [z] at z2
      cases z2
      rfl
    subst ey
    refine ⟨_, rfl, wpAny_letOwnedTupleGo_enum (s := { s with heap := h', toks := tk + 1 }) ho fun h'' he'' sb => ?_⟩
    have atT : h''.get? s.heap.objs.size = some { cls := .type "tuple", data := .seq #[.int i tk, y] } := (sb.2 _ (Nat.ne_of_gt le)).trans hT
    have new : ObjOk X.prog X.w (upd H s.heap.objs.size (.tup [.int (i : Nat), x])) h'' s.heap.objs.size (.tup [.int (i : Nat), x]) :=
      ⟨(by decide : 2 ≤ sizeLine), [.int i tk, y], .cons ⟨_, rfl⟩ (.cons ru .nil), ⟨_, atT, rfl, _, rfl⟩⟩
    have I1 : L2.Inv X pins σ (upd H s.heap.objs.size (.tup [.int (i : Nat), x])) { s with heap := h'', toks := tk + 1 } :=
      I.turnedNew (ch := [e, it]) (fun b ob hb q => (sb.2 b fun z => hb (by simp [z])).trans (hk b ob (fun z => hb (by simp [z])) (fun z => hb (by simp [z])) q)) hf (Nat.le_refl _) new
    refine ⟨.ref s.heap.objs.size, _, I1, rfl, ⟨_, x, rfl, I.hok.fresh (Nat.le_refl _), rfl, fun ys hy => by rw [I.tuple_inj hy hq]; exact hx⟩, ⟨⟨y, ?_⟩, st'.1.at fun o q => (sb.2 it (Ne.symm hne)).trans q, hne⟩, fun b hb => ?_⟩
    · have e1 : ((i + 1 : Nat) : Int) = (i : Int) + 1 := by omega
      rw [e1]; exact he''
    · have lb : b < s.heap.objs.size := by
        rcases List.mem_cons.mp hb with z | z
        · rw [z]; exact le
        · rw [List.mem_singleton.mp z]; exact li
      rw [upd_ne (Nat.ne_of_lt lb)]
      exact (hf b hb).1
  done := fun X hP hw hK hc i pins s σ H E I hf ⟨⟨old, he⟩, hit, hne⟩ ⟨xs, hq, hx⟩ => by
    subst hP hw hK
    obtain ⟨its, rv, pt, _⟩ := I.tuple hq
    have tT : s.heap.IsTuple a its.toArray := pt
    have hat : a ≠ it := fun z => by
      obtain ⟨o1, g1, c1, _⟩ := tT
      obtain ⟨o2, g2, c2, _⟩ := hit
      rw [z, g2] at g1
      cases g1
      rw [c2] at c1
      exact absurd c1 (by simp)
    have hmem : it ∈ [e, it] := List.mem_cons_of_mem _ (List.mem_singleton.mpr rfl)
    have en : i = its.toArray.size := by
      have := rv.length
      simp only [List.size_toArray]
      omega
    subst en
    exact wpAny_pyNext_enum_endD (Draws.tuple (A := X.A.in1) (I.ok.hd hc) it a hat its.toArray) he ⟨hit, tT⟩ fun h' eb => ⟨rfl, I.turnedL (ch := [it]) (t' := s.toks) (fun b o hb q => eb b o (fun z => hb (by simp [z])) q) fun b hb => by
      rw [List.mem_singleton.mp hb]
      exact hf it hmem⟩
  self := fun A i s Q E ⟨⟨_, he⟩, _⟩ h => wpAny_pyIter_enum he h
def iE (K : PySem.W.Frag) (ta : TA) : TI := fun σ H R => ta σ H fun vs H1 => ∃ a xs, vs = [.ref a] ∧ SqT K H1 a xs ∧ R (ItE K a) H1
theorem pi_E {X : Cx} {e : Expr} {ta : TA} {p pos tpos : Pos} {elts : List Expr} {kk : Nat} (hg : Gl X "enumerate") (hm : X.mg "enumerate" = none) (ha : PA X [e] ta) (hs : starEach [e] X.env = [(false, eval e X.env)] := by rfl) :
    PI X (.Tuple elts kk tpos) (.Call (.Name "enumerate" p) [e] [] pos) (iE X.K ta) := by
  refine ⟨fun pins s σ H R I h => PyProof.Rows.Call_ (ld_blt I hg hm PyProof.Rows.boot_enumerate (PyProof.Rows.callWith_type1 (thn (ha.run pos pins s σ H _ I h) fun us s1 hq => ?_) hs rfl))⟩
  obtain ⟨vs, H1, I1, r1, a, xs, rfl, hx, q⟩ := hq
  obtain ⟨u, rfl, ru⟩ := r1.one
  cases ru
  obtain ⟨its, rv, pt, _⟩ := I1.tuple hx
  refine enum_call (begins_tuple a its.toArray) (show s1.heap.IsTuple a its.toArray from pt) fun h' he hi hk => wpAny_pyIter_enum he ?_
  refine ⟨s1.heap.objs.size + 1, [s1.heap.objs.size + 1, s1.heap.objs.size], _, _, H1, rfl, I1.kept (t' := s1.toks) hk, turn_E a _ s1.heap.objs.size, ⟨⟨.none, he⟩, ⟨_, hi, rfl, rfl⟩, Nat.succ_ne_self _⟩, fun b hb => ?_, q⟩
  have le : s1.heap.objs.size ≤ b := by
    rcases List.mem_cons.mp hb with z | z
    · rw [z]; exact Nat.le_succ _
    · rw [List.mem_singleton.mp z]; exact Nat.le_refl _
  exact I1.fpOk le (I1.hok.fresh le)
/-- each item with its place -/
def withIx (ds : List PyData) : List PyData := ds.zipIdx.map fun p => .tuple [.int (p.2 : Int), p.1]
def mEnum {T : Type} (f : ME T) : Env → T → Option (List PyData × T) := fun ρ t => match mItems f ρ t with
  | some (ds, t') => some (withIx ds, t')
  | none => none
theorem withIx_at {ds : List PyData} {i : Nat} {d : PyData} (h : (withIx ds)[i]? = some d) : ∃ x, ds[i]? = some x ∧ d = .tuple [.int (i : Int), x] := by
  unfold withIx at h
  rw [List.getElem?_map, List.getElem?_zipIdx] at h
  cases e : ds[i]? with
  | none => rw [e] at h; cases h
  | some x =>
    rw [e] at h
    cases h
    exact ⟨x, rfl, by simp⟩
theorem withIx_len (ds : List PyData) : (withIx ds).length = ds.length := by simp [withIx]
section
variable {Γ : Gm} {X : Cx} {a : Expr} {pos p : Pos} {fa : ME Γ.T}
theorem pi_enumD {elts : List Expr} {kk : Nat} {tpos : Pos} (hK : X.K = Γ.K) (hg : Gl X "enumerate") (hm : X.mg "enumerate" = none) (h : PE X a (den Γ fa)) (hs : starEach [a] X.env = [(false, eval a X.env)] := by rfl) :
    PI X (.Tuple elts kk tpos) (.Call (.Name "enumerate" p) [a] [] pos) (denI Γ (mEnum fa)) := pi_w (pi_or (pi_enum hg hm (pa_cons h pa_nil hs) hs) (pi_E hg hm (pa_cons h pa_nil hs) hs)) fun σ H Rr => by
  rintro ⟨F, ρ, t, items, t', R, e, q⟩
  unfold mEnum at e
  split at e
  · rename_i ds t1 e0
    cases e
    obtain ⟨r, d, e1, e2, hv⟩ := items_of e0
    have fin : ∀ {F' H' : Hp} {t2 : Γ.T} {i : Nat} {x : PyData} {y : V}, Fin Γ F' H' t2 → Dq Γ.K F' y x → ∀ T, H' T = none → ∃ F'', Ext [] F' H' F'' (upd H' T (.tup [.int (i : Nat), y])) ∧ Dq Γ.K F'' (.ref T) (.tuple [.int (i : Int), x]) := fun {F' H' t2 i x y} R' k T hT =>
      ⟨_, Ext.keep R'.ex hT, .tup (.of upd_same) (.cons (.int _) (.cons (k.mono (Ext.keep (S := []) R'.ex hT).f) .nil))⟩
    cases d with
    | list es =>
      refine .inl ⟨F, ρ, t, r, _, R, e1, fun v F1 H1 R1 x1 k1 => ?_⟩
      obtain ⟨q2, vs2, rfl, k2, hq2⟩ := sq_of R1.ex (stays (Same.refl F1) R1.toFin (hv F1 H1 σ v R1 k1) R1.toFin) e2
      rcases hq2 with ⟨_, hq2⟩ | ⟨⟨es2, z⟩, _⟩
      · rw [hK]
        refine ⟨q2, vs2, rfl, hq2, q F1 H1 _ R1 x1 fun i F' H' t2 s R' => ?_⟩
        obtain ⟨q3, vs3, y3, k3, hq3⟩ := sq_of R'.ex (stays s R' (hv F1 H1 σ _ R1 k1) R1.toFin) e2
        cases y3
        rcases hq3 with ⟨_, hq3⟩ | ⟨⟨es3, z⟩, _⟩
        · refine ⟨fun x hx => ?_, fun hi => ⟨vs3, hq3, by rw [k3.length]; rw [withIx_len] at hi; exact Nat.le_of_eq hi⟩⟩
          obtain ⟨x0, hx0, rfl⟩ := withIx_at hx
          obtain ⟨y, hy, ky⟩ := k3.get hx0
          refine ⟨⟨vs3, y, hq3, hy⟩, fun x' H'' yl => ?_⟩
          obtain ⟨T, y2, rfl, hT, rfl, yl⟩ := yl
          have := yl _ hq3
          rw [hy] at this
          cases this
          exact fin R' ky T hT
        · cases z
      · cases z
    | tuple es =>
      refine .inr ⟨F, ρ, t, r, _, R, e1, fun v F1 H1 R1 x1 k1 => ?_⟩
      obtain ⟨q2, vs2, rfl, k2, hq2⟩ := sq_of R1.ex (stays (Same.refl F1) R1.toFin (hv F1 H1 σ v R1 k1) R1.toFin) e2
      rcases hq2 with ⟨⟨es2, z⟩, _⟩ | ⟨_, hq2⟩
      · cases z
      · rw [hK]
        refine ⟨q2, vs2, rfl, hq2, q F1 H1 _ R1 x1 fun i F' H' t2 s R' => ?_⟩
        obtain ⟨q3, vs3, y3, k3, hq3⟩ := sq_of R'.ex (stays s R' (hv F1 H1 σ _ R1 k1) R1.toFin) e2
        cases y3
        rcases hq3 with ⟨⟨es3, z⟩, _⟩ | ⟨_, hq3⟩
        · cases z
        · refine ⟨fun x hx => ?_, fun hi => ⟨vs3, hq3, by rw [k3.length]; rw [withIx_len] at hi; exact hi⟩⟩
          obtain ⟨x0, hx0, rfl⟩ := withIx_at hx
          obtain ⟨y, hy, ky⟩ := k3.get hx0
          refine ⟨⟨vs3, y, hq3, hy⟩, fun x' H'' yl => ?_⟩
          obtain ⟨T, y2, rfl, hT, rfl, yl⟩ := yl
          have := yl _ hq3
          rw [hy] at this
          cases this
          exact fin R' ky T hT
    | none => cases e2
    | bool b => cases e2
    | int i => cases e2
    | str x => cases e2
    | dict es => cases e2
  · cases e
end
end Mi
/-! repr of data. -/
namespace Mi
open PySem L2

mutual
def hasList : PyData → Bool
  | .list _ => true
  | .tuple xs => hasListA xs
  | .dict es => hasListK es
  | _ => false
def hasListA : List PyData → Bool
  | [] => false
  | x :: xs => hasList x || hasListA xs
def hasListK : List (PyData × PyData) → Bool
  | [] => false
  | x :: xs => hasList x.2 || hasListK xs
end
section
variable {X : Cx} {pins : List (Addr × Obj)} {σ : L2.St} {H F : Hp} {s : Shared}
theorem key_reads {k : Key} {u : Value} (h : keyIs k u = true) : ∃ as, Reads s.heap u (kD k) as ∧ as = [] := by
  rcases keyIs_shape h with ⟨i, t, rfl, rfl⟩ | ⟨x, t, rfl, rfl⟩
  · exact ⟨_, Reads.int i t, rfl⟩
  · exact ⟨_, Reads.str x t, rfl⟩
mutual
theorem Dq.rds (I : L2.Inv X pins σ H s) (sm : Same F H) : ∀ (d : PyData) (v : V) (u : Value), Dq X.K F v d → RelV v u → ∃ as, Reads s.heap u d as ∧ (hasList d = false → sysModules ∉ as)
  | .none, _, _, h, r => by
    cases h
    cases r
    exact ⟨_, Reads.none, fun _ => by simp⟩
  | .bool b, _, _, h, r => by
    cases h
    cases r
    exact ⟨_, Reads.bool b, fun _ => by simp⟩
  | .int i, _, _, h, r => by
    cases h
    obtain ⟨t, rfl⟩ := r
    exact ⟨_, Reads.int i t, fun _ => by simp⟩
  | .str x, _, _, h, r => by
    cases h
    obtain ⟨t, rfl⟩ := r
    exact ⟨_, Reads.str x t, fun _ => by simp⟩
  | .list ds, _, _, h, r => by
    cases h with
    | lst hs ha =>
      cases r
      obtain ⟨its, rv, ⟨o, n, ho, hc, _, hd⟩, _⟩ := I.list (.of (sm _ _ hs))
      obtain ⟨as, hr, _⟩ := DqA.rds I sm ds _ its ha rv
      exact ⟨_, Reads.list ho hc hd (by simpa using hr), fun z => by simp [hasList] at z⟩
  | .tuple ds, _, _, h, r => by
    cases h with
    | tup hs ha =>
      cases r
      obtain ⟨its, rv, ⟨o, ho, hc, n, hd⟩, _⟩ := I.tuple (same_t sm hs)
      obtain ⟨as, hr, hx⟩ := DqA.rds I sm ds _ its ha rv
      exact ⟨_, Reads.tuple ho hc hd (by simpa using hr), fun z => hx (by simpa [hasList] using z)⟩
  | .dict es, _, _, h, r => by
    cases h with
    | dct hs ha =>
      cases r
      obtain ⟨_, hne, vs, kv, o, ents, ep, ho, hex, hd, hk, hp, _⟩ := I.hok _ _ (sm _ _ hs)
      obtain ⟨as, bs, h1, h2, h3, h4⟩ := DqK.rds I sm es _ vs ents.toList ha kv hp
      exact ⟨_, Reads.dict ho hex.1 hd h1 h2, fun z => by
        simp only [List.cons_append, List.mem_cons, List.mem_append, not_or]
        exact ⟨fun q => by rw [← q] at hne; simp at hne, h3, h4 (by simpa [hasList] using z)⟩⟩
theorem DqA.rds (I : L2.Inv X pins σ H s) (sm : Same F H) : ∀ (ds : List PyData) (vs : List V) (us : List Value), DqA X.K F vs ds → Vals vs us → ∃ as, ReadsAll s.heap us ds as ∧ (hasListA ds = false → sysModules ∉ as)
  | [], _, _, h, r => by
    cases h
    cases r
    exact ⟨_, ReadsAll.nil, fun _ => by simp⟩
  | d :: ds, _, _, h, r => by
    cases h with
    | cons h1 h2 =>
      cases r with
      | cons r1 r2 =>
        obtain ⟨as, q1, z1⟩ := Dq.rds I sm d _ _ h1 r1
        obtain ⟨bs, q2, z2⟩ := DqA.rds I sm ds _ _ h2 r2
        exact ⟨_, ReadsAll.cons q1 q2, fun z => by
          simp only [hasListA, Bool.or_eq_false_iff] at z
          simp only [List.mem_append, not_or]
          exact ⟨z1 z.1, z2 z.2⟩⟩
theorem DqK.rds (I : L2.Inv X pins σ H s) (sm : Same F H) : ∀ (es : List (PyData × PyData)) (kvs : List (Key × V)) (vs : List (Key × Value)) (ents : List DictEntry), DqK X.K F kvs es → KV kvs vs → Pairs (mixKind X.prog X.w) ents vs →
    ∃ as bs, ReadsAll s.heap (ents.map (·.key)) (es.map (·.1)) as ∧ ReadsAll s.heap (ents.map (·.val)) (es.map (·.2)) bs ∧ sysModules ∉ as ∧ (hasListK es = false → sysModules ∉ bs)
  | [], _, _, _, h, r, p => by
    cases h
    cases r
    cases p
    exact ⟨_, _, ReadsAll.nil, ReadsAll.nil, by simp, fun _ => by simp⟩
  | e :: es, _, _, _, h, r, p => by
    cases h with
    | cons h1 h2 =>
      cases r with
      | cons r1 r2 =>
        cases p with
        | cons p1 p2 p3 =>
          obtain ⟨as, bs, q1, q2, z1, z2⟩ := DqK.rds I sm es _ _ _ h2 r2 p3
          obtain ⟨cs, y1, y2⟩ := Dq.rds I sm _ _ _ h1 r1.2
          obtain ⟨ks, g1, g2⟩ := key_reads (s := s) (show keyIs _ _ = true from p1)
          refine ⟨_, _, ReadsAll.cons (r1.1 ▸ g1) q1, ReadsAll.cons (p2 ▸ y1) q2, ?_, fun z => ?_⟩
          · subst g2
            simpa using z1
          · simp only [hasListK, Bool.or_eq_false_iff] at z
            simp only [List.mem_append, not_or]
            exact ⟨y2 z.1, z2 z.2⟩
end
end
def reprD : List PyData → Option PyData
  | [d] => if d.showable = true ∧ d.shown.length ≤ sizeLine ∧ d.depth ≤ 60 ∧ (d.hasDict = true → hasList d = false) then some (.str d.shown) else none
  | _ => none
/-- what is lent reads too -/
theorem Dv.rds {X : Cx} {pins : List (Addr × Obj)} {σ : L2.St} {H F : Hp} {s : Shared} {d : PyData} {v : V} {u : Value} (I : L2.Inv X pins σ H s) (sm : Same F H) (h : Dv X.K F H v d) (r : RelV v u) : ∃ as, Reads s.heap u d as ∧ (hasList d = false → sysModules ∉ as) := by
  cases d with
  | none => cases (show v = _ from h); exact Dq.rds (F := F) I sm _ _ _ .non r
  | bool b => cases (show v = _ from h); exact Dq.rds (F := F) I sm _ _ _ (.bl b) r
  | int i => cases (show v = _ from h); exact Dq.rds (F := F) I sm _ _ _ (.int i) r
  | str x => cases (show v = _ from h); exact Dq.rds (F := F) I sm _ _ _ (.str x) r
  | list ds =>
    obtain ⟨a, vs, rfl, h1, k⟩ := h
    exact Dq.rds (F := H) I (Same.refl H) _ _ _ (.lst h1 (k.mono sm)) r
  | tuple ds =>
    obtain ⟨a, vs, rfl, h1, k⟩ := h
    exact Dq.rds I sm _ _ _ (.tup h1 k) r
  | dict es =>
    obtain ⟨a, vs, rfl, h1, k⟩ := h
    exact Dq.rds (F := H) I (Same.refl H) _ _ _ (.dct h1 (k.mono sm)) r
theorem call_reprDD {X : Cx} (hg : X.A.guards = some []) (hu : X.A.units + 64 < cLine) : CallR X (.builtin "repr") (rC X.K reprD) := by
  rintro pins s σ H vs us Q I r ⟨F, xs, z, sm, dx, e, q⟩
  unfold reprD at e
  split at e
  · rename_i d
    split at e
    · rename_i hz
      cases e
      obtain ⟨v, rfl, h⟩ := f1 dx
      obtain ⟨u, rfl, ru⟩ := r.one
      have fin : Q (.str d.shown) H := q _ F H (Ext.refl sm) (.str _)
      cases d with
      | none => cases (show v = _ from h); cases ru; exact PySem.P.repr_of_none ⟨.str _, H, I.tok _, ⟨_, rfl⟩, fin⟩
      | bool b => cases (show v = _ from h); cases ru; exact PySem.P.repr_of_bool ⟨.str _, H, I.tok _, ⟨_, rfl⟩, fin⟩
      | int i =>
        cases (show v = _ from h)
        obtain ⟨t, rfl⟩ := ru
        exact PySem.P.repr_of_int (by simpa [PyData.showable] using hz.1) ⟨.str _, H, I.tok _, ⟨_, rfl⟩, fin⟩
      | str x =>
        cases (show v = _ from h)
        obtain ⟨t, rfl⟩ := ru
        exact PySem.P.repr_of_str ⟨.str _, H, I.tok _, ⟨_, rfl⟩, fin⟩ (by simpa [PyData.shown] using hz.2.1)
      | list ds =>
        obtain ⟨as, hr, hs⟩ := Dv.rds I sm h ru
        obtain ⟨a, ws, rfl, h1, k⟩ := h
        cases ru
        exact repr_of_reads' hr hz.1 (fun hd => hs (hz.2.2.2 hd)) hg (by have := hz.2.2.1; omega) (fun _ _ e => e) (fun h' u tk hk => ⟨.str _, H, I.kept hk, ⟨_, rfl⟩, fin⟩) hz.2.1
      | tuple ds =>
        obtain ⟨as, hr, hs⟩ := Dv.rds I sm h ru
        obtain ⟨a, ws, rfl, h1, k⟩ := h
        cases ru
        exact repr_of_reads' hr hz.1 (fun hd => hs (hz.2.2.2 hd)) hg (by have := hz.2.2.1; omega) (fun _ _ e => e) (fun h' u tk hk => ⟨.str _, H, I.kept hk, ⟨_, rfl⟩, fin⟩) hz.2.1
      | dict es =>
        obtain ⟨as, hr, hs⟩ := Dv.rds I sm h ru
        obtain ⟨a, ws, rfl, h1, k⟩ := h
        cases ru
        exact repr_of_reads' hr hz.1 (fun hd => hs (hz.2.2.2 hd)) hg (by have := hz.2.2.1; omega) (fun _ _ e => e) (fun h' u tk hk => ⟨.str _, H, I.kept hk, ⟨_, rfl⟩, fin⟩) hz.2.1
    · cases e
  · cases e
end Mi
/-! The tray: a dict of ints, and one list of ints in it. -/
namespace Mi
open PySem L2

structure Tr where
  far : List Int
  es : List (Str × Int)
def tget : List (Str × Int) → Str → Option Int
  | [], _ => none
  | (x, i) :: r, k => if x = k then some i else tget r k
def tput : List (Str × Int) → Str → Int → List (Str × Int)
  | [], _, _ => []
  | (x, i) :: r, k, v => (if x = k then (x, v) else (x, i)) :: tput r k v
def entE (e : Str × Int) : Key × V := (.inr e.1, .int e.2)
def ents (fk : Str) (g : Addr) (es : List (Str × Int)) : List (Key × V) := (.inr fk, .ref g) :: es.map entE
def TrAt (fk : Str) (ta g : Addr) (t : Tr) (H : Hp) : Prop := H ta = some (.dK (ents fk g t.es)) ∧ H g = some (.lst (t.far.map .int))
theorem tget_valV (k : Str) : ∀ es : List (Str × Int), valV (es.map entE) (Sum.inr k : Key) = (tget es k).map V.int
  | [] => rfl
  | (x, i) :: r => by
    rw [List.map_cons]
    unfold tget
    by_cases h : x = k
    · rw [if_pos h]
      exact valV_pos (p := entE (x, i)) (by show (Sum.inr x : Key) = _; rw [h])
    · rw [if_neg h, ← tget_valV k r]
      exact valV_neg (p := entE (x, i)) (fun z => h (Sum.inr.inj z))
theorem tput_putK (k : Str) (v : Int) : ∀ es : List (Str × Int), (es.map entE).map (fun kv => if kv.1 = (Sum.inr k : Key) then (kv.1, V.int v) else kv) = (tput es k v).map entE
  | [] => rfl
  | (x, i) :: r => by
    rw [List.map_cons, List.map_cons, tput_putK k v r, show tput ((x, i) :: r) k v = (if x = k then (x, v) else (x, i)) :: tput r k v from rfl, List.map_cons]
    by_cases h : x = k
    · rw [if_pos h]
      have : (entE (x, i)).1 = (Sum.inr k : Key) := by show (Sum.inr x : Key) = _; rw [h]
      rw [if_pos this]
      rfl
    · rw [if_neg h]
      have : ¬ (entE (x, i)).1 = (Sum.inr k : Key) := fun z => h (Sum.inr.inj z)
      rw [if_neg this]
theorem ents_get {fk k : Str} {g : Addr} {es : List (Str × Int)} {i : Int} (h : fk ≠ k) (e : tget es k = some i) : valV (ents fk g es) (Sum.inr k : Key) = some (.int i) := by
  unfold ents
  rw [valV_neg (p := ((Sum.inr fk : Key), V.ref g)) (fun z => h (Sum.inr.inj z)), tget_valV, e]
  rfl
theorem ents_far {fk : Str} {g : Addr} {es : List (Str × Int)} : valV (ents fk g es) (Sum.inr fk : Key) = some (.ref g) := valV_pos rfl
theorem ents_put {fk k : Str} {g : Addr} {es : List (Str × Int)} {i v : Int} (h : fk ≠ k) (e : tget es k = some i) : putK (ents fk g es) (Sum.inr k : Key) (.int v) = ents fk g (tput es k v) := by
  unfold putK
  have ha : ((ents fk g es).any fun kv => decide (kv.1 = (Sum.inr k : Key))) = true := by rw [valV_any, ents_get h e]; rfl
  rw [if_pos ha]
  unfold ents
  rw [List.map_cons, tput_putK]
  have : ¬ (Sum.inr fk : Key) = Sum.inr k := fun z => h (Sum.inr.inj z)
  rw [if_neg this]
def Gt (K : PySem.W.Frag) (fk : Str) (ta g : Addr) (F H : Hp) : Gm :=
  { K := K, S := [ta, g], T := Tr, In := TrAt fk ta g, loc := fun t H H' h q => ⟨by rw [h ta (by simp)]; exact q.1, by rw [h g (by simp)]; exact q.2⟩,
    has := fun t H a ha q => by
      rcases List.mem_cons.mp ha with rfl | ha
      · exact ⟨_, q.1⟩
      · cases List.mem_singleton.mp ha
        exact ⟨_, q.2⟩
    F0 := F, H0 := H, ta := fun k => match k with | 0 => .ref ta | _ => .ref g }
/-- the tray's own objects change -/
theorem Rep.tray {Γ : Gm} {F H : Hp} {σ : L2.St} {ρ : Env} {t t' : Γ.T} {a : Addr} {o : HO} (R : Rep Γ F H σ ρ t) (ha : a ∈ Γ.S) (inn : Γ.In t' (upd H a o)) : Rep Γ F (upd H a o) σ ρ t' ∧ Ext Γ.S F H F (upd H a o) := by
  have x : Ext Γ.S F H F (upd H a o) := ⟨Same.refl F, fun b u q => by rw [upd_ne (ne_of_none q (R.sF a ha))]; exact R.ex b u q, fun b u hb q => by rw [upd_ne fun z : b = a => hb (z ▸ ha)]; exact q, fun _ _ q _ => q⟩
  exact ⟨R.ext x inn R.sF, x⟩
section
variable {K : PySem.W.Frag} {fk : Str} {ta g : Addr} {F0 H0 : Hp} {X : Cx} {o a b : Expr} {fo fa : ME Tr} {pos p2 : Pos} {j : Nat} {k : Str}
theorem TrAt.ne {t : Tr} {H : Hp} (h : TrAt fk ta g t H) : ta ≠ g := fun z => by
  obtain ⟨h1, h2⟩ := h
  rw [← z, h1] at h2
  cases h2
theorem TrAt.setT {t : Tr} {H : Hp} {es : List (Str × Int)} (h : TrAt fk ta g t H) : TrAt fk ta g { t with es := es } (upd H ta (.dK (ents fk g es))) := ⟨upd_same, by rw [upd_ne h.ne.symm]; exact h.2⟩
theorem TrAt.setF {t : Tr} {H : Hp} {far : List Int} (h : TrAt fk ta g t H) : TrAt fk ta g { t with far := far } (upd H g (.lst (far.map .int))) := ⟨by rw [upd_ne h.ne]; exact h.1, upd_same⟩

/-- tray['far'] -/
def mFar (fo : ME Tr) : ME Tr := fun ρ t => match fo ρ t with
  | some (.tray 0, t') => some (.tray 1, t')
  | _ => none
theorem pe_far (hu : X.A.units + 1 < cLine) (ho : PE X o (den (Gt K fk ta g F0 H0) fo)) : PE X (.Subscript o (.Constant (.str fk) j p2) pos) (den (Gt K fk ta g F0 H0) (mFar fo)) :=
  pe_w (pe_dget hu ho pe_str (by intro _ _; rfl)) fun σ H Q => by
    rintro ⟨F, ρ, t, r, t', R, e, q⟩
    unfold mFar at e
    split at e
    · rename_i t1 e1
      cases e
      refine ⟨F, ρ, t, _, _, R, e1, fun v F1 H1 R1 x1 k1 => ?_⟩
      cases (show v = V.ref ta from k1)
      exact ⟨ta, .ref g, rfl, .inl ⟨_, Sum.inr fk, .inl R1.inn.1, rfl, ents_far.symm⟩, q _ F1 H1 R1 x1 rfl⟩
    · cases e
/-- tray['turn'] -/
def mTget (fk k : Str) (fo : ME Tr) : ME Tr := fun ρ t => match fo ρ t with
  | some (.tray 0, t') => if fk = k then none else match tget t'.es k with
    | some i => some (.fro (.int i), t')
    | none => none
  | _ => none
theorem pe_tget (hu : X.A.units + 1 < cLine) (ho : PE X o (den (Gt K fk ta g F0 H0) fo)) : PE X (.Subscript o (.Constant (.str k) j p2) pos) (den (Gt K fk ta g F0 H0) (mTget fk k fo)) :=
  pe_w (pe_dget hu ho pe_str (by intro _ _; rfl)) fun σ H Q => by
    rintro ⟨F, ρ, t, r, t', R, e, q⟩
    unfold mTget at e
    split at e
    · rename_i t1 e1
      split at e
      · cases e
      · rename_i hne
        split at e
        · rename_i i e2
          cases e
          refine ⟨F, ρ, t, _, _, R, e1, fun v F1 H1 R1 x1 k1 => ?_⟩
          cases (show v = V.ref ta from k1)
          exact ⟨ta, .int i, rfl, .inl ⟨_, Sum.inr k, .inl R1.inn.1, rfl, (ents_get hne e2).symm⟩, q _ F1 H1 R1 x1 (.int i)⟩
        · cases e
    · cases e
/-- tray['turn'] = e -/
def mTput (fk k : Str) (fo fa : ME Tr) : MS Tr := fun ρ t => match fa ρ t with
  | some (.fro (.int i), t1) => match fo ρ t1 with
    | some (.tray 0, t2) => if fk = k then none else if (tget t2.es k).isSome = true ∧ t2.es.length + 1 < sizeLine then some (.nx ρ, { t2 with es := tput t2.es k i }) else none
    | _ => none
  | _ => none
theorem ps_tput (hu : X.A.units + 1 < cLine) (ho : PE X o (den (Gt K fk ta g F0 H0) fo)) (ha : PE X a (den (Gt K fk ta g F0 H0) fa)) {q2 : Pos}
    (hs : swapsWith a (some (.Subscript o (.Constant (.str k) j p2) q2)) pos.line X.env = pure false := by rfl) : PS X (.Assign [.Subscript o (.Constant (.str k) j p2) q2] a pos) (denS (Gt K fk ta g F0 H0) (mTput fk k fo fa)) :=
  ps_w (ps_dput hu ho pe_str ha hs) fun D σ H => by
    rintro ⟨F, ρ, t, r, t', R, e, q⟩
    unfold mTput at e
    split at e
    · rename_i i t1 e1
      split at e
      · rename_i t2 e2
        split at e
        · cases e
        · rename_i hne
          split at e
          · rename_i hz
            cases e
            refine ⟨F, ρ, t, _, _, R, e1, fun v F1 H1 R1 x1 k1 => ⟨F1, ρ, _, _, _, R1, e2, fun w F2 H2 R2 x2 k2 => ?_⟩⟩
            cases (show w = V.ref ta from k2)
            cases (show Dq K F1 v (.int i) from k1)
            obtain ⟨i0, hi0⟩ := Option.isSome_iff_exists.mp hz.1
            refine ⟨ta, _, rfl, DPut.k (k := Sum.inr k) R2.inn.1 (by unfold ents; rw [List.length_cons, List.length_map]; exact hz.2), ?_⟩
            rw [ents_put hne hi0]
            obtain ⟨R3, x3⟩ := R2.tray (a := ta) (List.mem_cons_self ..) (TrAt.setT (es := tput t2.es k i) R2.inn)
            exact q σ F2 _ R3 ((x1.f.trans x2.f).trans x3.f)
          · cases e
      · cases e
    · cases e
/-- far != [] -/
def mFarNe (fo : ME Tr) : Env → Tr → Option (Bool × Tr) := fun ρ t => match fo ρ t with
  | some (.tray 1, t') => some (!t'.far.isEmpty, t')
  | _ => none
theorem dqa_ints {F : Hp} : ∀ zs : List Int, DqA K F (zs.map .int) (zs.map .int)
  | [] => .nil
  | z :: r => .cons (.int z) (dqa_ints r)
theorem ne_nil (zs : List PyData) : neD (.list zs) (.list []) = some (.bool (!zs.isEmpty)) := by
  cases zs with
  | nil => rfl
  | cons z r => rfl
theorem pt_farNe (hu : X.A.units + 64 < cLine) (hK : X.K = K) (ho : PE X o (den (Gt K fk ta g F0 H0) fo)) : PT X (.Compare o [.NotEq] [.List [] p2] pos) (denT (Gt K fk ta g F0 H0) (mFarNe fo)) :=
  pt_w (pt_cmpR (op_neDD hu) ho (pe_lstD (Γ := Gt K fk ta g F0 H0) pa_nilD) rfl) fun σ H Q => by
    rintro ⟨F, ρ, t, r, t', R, e, q⟩
    unfold mFarNe at e
    split at e
    · rename_i t1 e1
      cases e
      refine ⟨F, ρ, t, _, _, R, e1, fun v F1 H1 R1 x1 k1 => ⟨F1, ρ, _, .list [], _, R1, rfl, fun p F2 H2 R2 x2 fr => ?_⟩⟩
      cases (show v = V.ref g from k1)
      rw [hK]
      refine ⟨F2, .list ((Tr.far t').map .int), .list [], _, R2.ex, ⟨g, _, rfl, R2.inn.2, dqa_ints _⟩, fr.own.dv, ne_nil _, fun u F3 H3 x3 k3 => ?_⟩
      cases k3
      refine ⟨_, rfl, ?_⟩
      rw [show ((Tr.far t').map PyData.int).isEmpty = (Tr.far t').isEmpty from by cases Tr.far t' <;> rfl]
      exact q F3 H3 (R2.ext0 x3) ((x1.then x2 R2).then x3.wide (R2.ext0 x3))
    · cases e
/-- far.pop(0) -/
def mPop0 (fo : ME Tr) : ME Tr := fun ρ t => match fo ρ t with
  | some (.tray 1, t') => match t'.far with
    | x :: r => some (.fro (.int x), { t' with far := r })
    | [] => none
  | _ => none
variable {apos cpos : Pos}
theorem pe_pop0 (hK : X.K = K) (ho : PE X o (den (Gt K fk ta g F0 H0) fo)) (hs1 : starEach [.Constant (.int 0) j p2] X.env = (false, eval (.Constant (.int 0) j p2) X.env) :: starEach [] X.env := by rfl) (hbase : attributeBase o "pop" X.env (eval o X.env) = eval o X.env := by rfl)
    (hfew : ((backTo cpos (starEach [.Constant (.int 0) j p2] X.env)).all (fun x => !x.1) && (backToKw cpos (keywordEach [] X.env)).all (fun x => x.1.isSome) && decide ([Expr.Constant (.int 0) j p2].length + ([] : List Keyword).length + (if ([] : List Keyword).isEmpty then 0 else 1) < 30)) = true := by rfl)
    (hline : (apos.endLine == cpos.line) = true := by rfl) (hplain : (backTo cpos (starEach [] X.env)).any (·.1) = false := by rfl) :
    PE X (.Call (.Attribute o "pop" apos) [.Constant (.int 0) j p2] [] cpos) (den (Gt K fk ta g F0 H0) (mPop0 fo)) :=
  pe_w (pe_bm PySem.F.plainAttrs_list PySem.F.slot_list_pop PySem.F.type_list_pop mt_popAt ho (pa_cons pe_int pa_nil hs1) hbase hfew hline hs1 hplain) fun σ H Q => by
    rintro ⟨F, ρ, t, r, t', R, e, q⟩
    unfold mPop0 at e
    split at e
    · rename_i t1 e1
      split at e
      · rename_i x rest e2
        cases e
        refine ⟨F, ρ, t, _, _, R, e1, fun v F1 H1 R1 x1 k1 => ?_⟩
        cases (show v = V.ref g from k1)
        have hg := R1.inn.2
        rw [e2, List.map_cons] at hg
        obtain ⟨R3, x3⟩ := R1.tray (a := g) (by show g ∈ [ta, g]; simp) (TrAt.setF (far := rest) R1.inn)
        exact ⟨.inl ⟨rfl, _, .of hg⟩, g, _, 0, 0, _, rfl, rfl, hg, by decide, by decide, by simp [seqIndex?], rfl, q _ F1 _ R3 (x1.then x3 R3) (.int x)⟩
      · cases e
    · cases e
/-- far.pop() -/
def mPopL (fo : ME Tr) : ME Tr := fun ρ t => match fo ρ t with
  | some (.tray 1, t') => match t'.far[t'.far.length - 1]? with
    | some x => some (.fro (.int x), { t' with far := t'.far.dropLast })
    | none => none
  | _ => none
theorem pe_popL (ho : PE X o (den (Gt K fk ta g F0 H0) fo)) (hbase : attributeBase o "pop" X.env (eval o X.env) = eval o X.env := by rfl) (hline : (apos.endLine == cpos.line) = true := by rfl) :
    PE X (.Call (.Attribute o "pop" apos) [] [] cpos) (den (Gt K fk ta g F0 H0) (mPopL fo)) :=
  pe_w (pe_bm0 PySem.F.plainAttrs_list PySem.F.slot_list_pop PySem.F.type_list_pop mt_pop ho hbase hline) fun σ H Q => by
    rintro ⟨F, ρ, t, r, t', R, e, q⟩
    unfold mPopL at e
    split at e
    · rename_i t1 e1
      split at e
      · rename_i x e2
        cases e
        refine ⟨F, ρ, t, _, _, R, e1, fun v F1 H1 R1 x1 k1 => ?_⟩
        cases (show v = V.ref g from k1)
        have hg := R1.inn.2
        obtain ⟨R3, x3⟩ := R1.tray (a := g) (by show g ∈ [ta, g]; simp) (TrAt.setF (far := t1.far.dropLast) R1.inn)
        have ed : ((Tr.far t1).map V.int).dropLast = (Tr.far t1).dropLast.map V.int := (List.map_dropLast ..).symm
        exact ⟨.inl ⟨rfl, _, .of hg⟩, g, _, _, rfl, rfl, hg, by rw [List.length_map, List.getElem?_map, e2]; rfl, by rw [ed]; exact q _ F1 _ R3 (x1.then x3 R3) (.int x)⟩
      · cases e
    · cases e
/-- far.insert(0, e) -/
def mIns0 (fo fa : ME Tr) : MS Tr := fun ρ t => match fo ρ t with
  | some (.tray 1, t1) => match fa ρ t1 with
    | some (.fro (.int x), t2) => if t2.far.length < sizeLine then some (.nx ρ, { t2 with far := x :: t2.far }) else none
    | _ => none
  | _ => none
theorem ps_ins0 (ho : PE X o (den (Gt K fk ta g F0 H0) fo)) (ha : PE X a (den (Gt K fk ta g F0 H0) fa)) (hs1 : starEach [.Constant (.int 0) j p2, a] X.env = (false, eval (.Constant (.int 0) j p2) X.env) :: starEach [a] X.env := by rfl) (hs2 : starEach [a] X.env = (false, eval a X.env) :: starEach [] X.env := by rfl)
    (hbase : attributeBase o "insert" X.env (eval o X.env) = eval o X.env := by rfl)
    (hfew : ((backTo cpos (starEach [.Constant (.int 0) j p2, a] X.env)).all (fun x => !x.1) && (backToKw cpos (keywordEach [] X.env)).all (fun x => x.1.isSome) && decide ([Expr.Constant (.int 0) j p2, a].length + ([] : List Keyword).length + (if ([] : List Keyword).isEmpty then 0 else 1) < 30)) = true := by rfl)
    (hline : (apos.endLine == cpos.line) = true := by rfl) (hplain : (backTo cpos (starEach [a] X.env)).any (·.1) = false := by rfl)
    (hs : swapsWith (.Call (.Attribute o "insert" apos) [.Constant (.int 0) j p2, a] [] cpos) none pos.line X.env = pure false := by rfl) :
    PS X (.Expr (.Call (.Attribute o "insert" apos) [.Constant (.int 0) j p2, a] [] cpos) pos) (denS (Gt K fk ta g F0 H0) (mIns0 fo fa)) :=
  ps_w (ps_expr (pe_bm PySem.F.plainAttrs_list PySem.F.slot_list_insert PySem.F.type_list_insert mt_insert ho (pa_cons pe_int (pa_cons ha pa_nil hs2) hs1) hbase hfew hline hs1 hplain) hs) fun D σ H => by
    rintro ⟨F, ρ, t, r, t', R, e, q⟩
    unfold mIns0 at e
    split at e
    · rename_i t1 e1
      split at e
      · rename_i x t2 e2
        split at e
        · rename_i hz
          cases e
          refine ⟨F, ρ, t, _, _, R, e1, fun v F1 H1 R1 x1 k1 => ⟨?_, F1, ρ, _, _, _, R1, e2, fun w F2 H2 R2 x2 k2 => ?_⟩⟩
          · cases (show v = V.ref g from k1)
            exact .inl ⟨rfl, _, .of R1.inn.2⟩
          · cases (show v = V.ref g from k1)
            cases (show Dq K F2 w (.int x) from k2)
            obtain ⟨R3, x3⟩ := R2.tray (a := g) (by show g ∈ [ta, g]; simp) (TrAt.setF (far := x :: t2.far) R2.inn)
            exact ⟨g, _, 0, _, rfl, rfl, R2.inn.2, by rw [List.length_map]; exact hz, by decide, by decide, q σ F2 _ R3 ((x1.f.trans x2.f).trans x3.f)⟩
        · cases e
      · cases e
    · cases e
/-- far.append(e) -/
def mFarApp (fo fa : ME Tr) : MS Tr := fun ρ t => match fo ρ t with
  | some (.tray 1, t1) => match fa ρ t1 with
    | some (.fro (.int x), t2) => if t2.far.length < sizeLine then some (.nx ρ, { t2 with far := t2.far ++ [x] }) else none
    | _ => none
  | _ => none
theorem ps_farApp (ho : PE X o (den (Gt K fk ta g F0 H0) fo)) (ha : PE X a (den (Gt K fk ta g F0 H0) fa)) (hs1 : starEach [a] X.env = (false, eval a X.env) :: starEach [] X.env := by rfl)
    (hbase : attributeBase o "append" X.env (eval o X.env) = eval o X.env := by rfl)
    (hfew : ((backTo cpos (starEach [a] X.env)).all (fun x => !x.1) && (backToKw cpos (keywordEach [] X.env)).all (fun x => x.1.isSome) && decide ([a].length + ([] : List Keyword).length + (if ([] : List Keyword).isEmpty then 0 else 1) < 30)) = true := by rfl)
    (hline : (apos.endLine == cpos.line) = true := by rfl) (hplain : (backTo cpos (starEach [] X.env)).any (·.1) = false := by rfl)
    (hs : swapsWith (.Call (.Attribute o "append" apos) [a] [] cpos) none pos.line X.env = pure false := by rfl) :
    PS X (.Expr (.Call (.Attribute o "append" apos) [a] [] cpos) pos) (denS (Gt K fk ta g F0 H0) (mFarApp fo fa)) :=
  ps_w (ps_expr (pe_bm PySem.F.plainAttrs_list PySem.F.slot_list_append PySem.F.type_list_append mt_append ho (pa_cons ha pa_nil hs1) hbase hfew hline hs1 hplain) hs) fun D σ H => by
    rintro ⟨F, ρ, t, r, t', R, e, q⟩
    unfold mFarApp at e
    split at e
    · rename_i t1 e1
      split at e
      · rename_i x t2 e2
        split at e
        · rename_i hz
          cases e
          refine ⟨F, ρ, t, _, _, R, e1, fun v F1 H1 R1 x1 k1 => ⟨?_, F1, ρ, _, _, _, R1, e2, fun w F2 H2 R2 x2 k2 => ?_⟩⟩
          · cases (show v = V.ref g from k1)
            exact .inl ⟨rfl, _, .of R1.inn.2⟩
          · cases (show v = V.ref g from k1)
            cases (show Dq K F2 w (.int x) from k2)
            obtain ⟨R3, x3⟩ := R2.tray (a := g) (by show g ∈ [ta, g]; simp) (TrAt.setF (far := t2.far ++ [x]) R2.inn)
            have ed : (Tr.far t2).map V.int ++ [V.int x] = (Tr.far t2 ++ [x]).map V.int := by rw [List.map_append]; rfl
            exact ⟨g, _, _, rfl, rfl, R2.inn.2, by rw [List.length_map]; exact hz, by rw [ed]; exact q σ F2 _ R3 ((x1.f.trans x2.f).trans x3.f)⟩
        · cases e
      · cases e
    · cases e
/-- far[0] -/
def mFarAt (fo fa : ME Tr) : ME Tr := fun ρ t => match fo ρ t with
  | some (.tray 1, t1) => match fa ρ t1 with
    | some (.fro (.int i), t2) => match atI t2.far i with
      | some x => some (.fro (.int x), t2)
      | none => none
    | _ => none
  | _ => none
theorem atI_map {α β : Type} {f : α → β} {l : List α} {i : Int} {x : α} (h : atI l i = some x) : atI (l.map f) i = some (f x) := by
  unfold atI at h ⊢
  rw [List.length_map]
  cases e : ixN l.length i with
  | none => rw [e] at h; cases h
  | some n =>
    rw [e] at h
    have h : l[n]? = some x := h
    show (l.map f)[n]? = _
    rw [List.getElem?_map, h]
    rfl
theorem pe_farAt (hK : X.K = K) (ho : PE X o (den (Gt K fk ta g F0 H0) fo)) (ha : PE X a (den (Gt K fk ta g F0 H0) fa)) (hs : PlainIx a := by intro _ _; rfl) : PE X (.Subscript o a pos) (den (Gt K fk ta g F0 H0) (mFarAt fo fa)) :=
  pe_w (pe_ix ix_list ho ha hs) fun σ H Q => by
    rintro ⟨F, ρ, t, r, t', R, e, q⟩
    unfold mFarAt at e
    split at e
    · rename_i t1 e1
      split at e
      · rename_i i t2 e2
        split at e
        · rename_i x e3
          cases e
          refine ⟨F, ρ, t, _, _, R, e1, fun v F1 H1 R1 x1 k1 => ⟨F1, ρ, _, _, _, R1, e2, fun w F2 H2 R2 x2 k2 => ?_⟩⟩
          cases (show v = V.ref g from k1)
          cases (show Dq K F2 w (.int i) from k2)
          exact ⟨g, _, i, _, rfl, rfl, .of R2.inn.2, atI_map e3, q _ F2 H2 R2 (x1.then x2 R2) (.int x)⟩
        · cases e
      · cases e
    · cases e
/-- far[0] = e -/
def mFarPut (fo fi fa : ME Tr) : MS Tr := fun ρ t => match fa ρ t with
  | some (.fro (.int x), t1) => match fo ρ t1 with
    | some (.tray 1, t2) => match fi ρ t2 with
      | some (.fro (.int i), t3) => match ixN t3.far.length i with
        | some n => some (.nx ρ, { t3 with far := t3.far.set n x })
        | none => none
      | _ => none
    | _ => none
  | _ => none
variable {fi : ME Tr} {i : Expr} {q2 : Pos}
theorem ps_farPut (ho : PE X o (den (Gt K fk ta g F0 H0) fo)) (hi : PE X i (den (Gt K fk ta g F0 H0) fi)) (ha : PE X a (den (Gt K fk ta g F0 H0) fa))
    (hs : swapsWithSole [.Subscript o i q2] a pos.line X.env = pure false := by rfl) (hw : swappedStores [.Subscript o i q2] a X.env = pure none := by rfl)
    (h1 : (assignEach [.Subscript o i q2] X.env).map (·.2) = [assign (.Subscript o i q2) X.env] := by rfl)
    (hx : ∀ v, assign (.Subscript o i q2) X.env v = (do
      let ov ← holding [v] (eval o X.env)
      let iv ← holding [v, ov] (eval i X.env)
      standAt q2
      holding [v, ov, iv] (setItem ov iv v)
      release [v, ov, iv] []) := by intro _; rfl) : PS X (.Assign [.Subscript o i q2] a pos) (denS (Gt K fk ta g F0 H0) (mFarPut fo fi fa)) :=
  ps_w (ps_asg ha (pg_sub ho hi set_list hx) hs hw h1) fun D σ H => by
    rintro ⟨F, ρ, t, r, t', R, e, q⟩
    unfold mFarPut at e
    split at e
    · rename_i x t1 e1
      split at e
      · rename_i t2 e2
        split at e
        · rename_i z t3 e3
          split at e
          · rename_i n e4
            cases e
            refine ⟨F, ρ, t, _, _, R, e1, fun v F1 H1 R1 x1 k1 => ⟨F1, ρ, _, _, _, R1, e2, fun w F2 H2 R2 x2 k2 => ⟨F2, ρ, _, _, _, R2, e3, fun y F3 H3 R3 x3 k3 => ?_⟩⟩⟩
            cases (show Dq K F1 v (.int x) from k1)
            cases (show w = V.ref g from k2)
            cases (show Dq K F3 y (.int z) from k3)
            obtain ⟨R4, x4⟩ := R3.tray (a := g) (by show g ∈ [ta, g]; simp) (TrAt.setF (far := t3.far.set n x) R3.inn)
            have ed : ((Tr.far t3).map V.int).set n (V.int x) = ((Tr.far t3).set n x).map V.int := List.map_set.symm
            exact ⟨g, _, z, n, rfl, rfl, R3.inn.2, by rw [List.length_map]; exact e4, by rw [ed]; exact q σ F3 _ R4 (((x1.f.trans x2.f).trans x3.f).trans x4.f)⟩
          · cases e
        · cases e
      · cases e
    · cases e
end
end Mi
/-! Dict displays; defs that take the tray; the law's end. -/
namespace Mi
open PySem L2

/-! ### dict displays with written keys -/
def mapD : List Key → List PyData → List (PyData × PyData)
  | k :: ks, d :: ds => (kD k, d) :: mapD ks ds
  | _, _ => []
theorem merge_new : ∀ (kvs acc : List (Key × V)), ((acc ++ kvs).map (·.1)).Nodup → mergeK acc kvs = acc ++ kvs
  | [], acc, _ => by rw [List.append_nil]; rfl
  | (k, v) :: r, acc, h => by
    have hp : putK acc k v = acc ++ [(k, v)] := by
      unfold putK
      have : (acc.any fun kv => decide (kv.1 = k)) = false := by
        rw [Bool.eq_false_iff]
        intro z
        obtain ⟨p, hp, hk⟩ := List.any_eq_true.mp z
        have hk := of_decide_eq_true hk
        rw [List.map_append, List.nodup_append] at h
        exact h.2.2 p.1 (List.mem_map_of_mem hp) k (by simp) hk
      rw [this]
      rfl
    have := merge_new r (acc ++ [(k, v)]) (by simpa using h)
    show mergeK (putK acc k v) r = _
    rw [hp, this]
    simp
theorem kD_ok {K : PySem.W.Frag} {F : Hp} : ∀ {ks : List Key} {vs : List V} {ds : List PyData}, ks.length = vs.length → DqA K F vs ds → DqK K F (ks.zip vs) (mapD ks ds)
  | [], [], _, _, .nil => .nil
  | k :: ks, _ :: _, _, h, .cons q r => .cons q (kD_ok (Nat.succ.inj h) r)
def mDict {T : Type} (ks : List Key) (g : Env → T → Option (List Rv × T)) : Env → T → Option (PyData × T) := fun ρ t => do
  let (rs, t1) ← g ρ t
  let ds ← kept rs
  if ds.length = ks.length ∧ ks.Nodup ∧ ks.length ≤ 15 then pure (.dict (mapD ks ds), t1) else none
/-- the values of a display -/
inductive VsOk (X : Cx) (Γ : Gm) : List Expr → (Env → Γ.T → Option (List Rv × Γ.T)) → List TE → Prop
  | nil : VsOk X Γ [] mNil []
  | cons {a : Expr} {es : List Expr} {f : ME Γ.T} {g : Env → Γ.T → Option (List Rv × Γ.T)} {ts : List TE} : PE X a (den Γ f) → VsOk X Γ es g ts → VsOk X Γ (a :: es) (mCons f g) (den Γ f :: ts)
def kTE : Key → TE
  | .inl i => tC (.int i)
  | .inr x => tC (.str x)
inductive KsOk (X : Cx) : List (Option Expr) → List Key → Prop
  | nil : KsOk X [] []
  | str {x : Str} {j : Nat} {p : Pos} {es : List (Option Expr)} {ks : List Key} : KsOk X es ks → KsOk X (some (.Constant (.str x) j p) :: es) (.inr x :: ks)
  | int {i : Int} {j : Nat} {p : Pos} {es : List (Option Expr)} {ks : List Key} : KsOk X es ks → KsOk X (some (.Constant (.int i) j p) :: es) (.inl i :: ks)
def trees : List Key → List TE → List (TE × TE)
  | k :: ks, t :: ts => (kTE k, t) :: trees ks ts
  | _, _ => []
section
variable {Γ : Gm} {X : Cx} {pos : Pos}
theorem pps_of {g : Env → Γ.T → Option (List Rv × Γ.T)} : ∀ {ke : List (Option Expr)} {ks : List Key} {es : List Expr} {ts : List TE}, KsOk X ke ks → VsOk X Γ es g ts → ke.length = es.length → PPs X pos ke es (trees ks ts) := by
  intro ke ks es ts hk
  induction hk generalizing es ts g with
  | nil =>
    intro hv hl
    cases hv with
    | nil => exact pps_nil
    | cons _ _ => cases hl
  | str hk ih =>
    intro hv hl
    cases hv with
    | nil => cases hl
    | cons h1 h2 => exact pps_cons pe_str h1 (ih h2 (Nat.succ.inj hl))
  | int hk ih =>
    intro hv hl
    cases hv with
    | nil => cases hl
    | cons h1 h2 => exact pps_cons pe_int h1 (ih h2 (Nat.succ.inj hl))
theorem kTE_c {k : Key} {σ : L2.St} {H : Hp} {Q : VK} (h : Q (kV k) H) : kTE k σ H Q := by
  cases k <;> exact h
theorem pairs_of {es : List Expr} {g : Env → Γ.T → Option (List Rv × Γ.T)} {ts : List TE} (hv : VsOk X Γ es g ts) : ∀ {ks : List Key} {F H : Hp} {σ : L2.St} {ρ : Env} {t t' : Γ.T} {rs : List Rv} {Q : List (V × V) → Hp → Prop}, Rep Γ F H σ ρ t → g ρ t = some (rs, t') → rs.length = ks.length →
    (∀ vs F' H', Rep Γ F' H' σ ρ t' → Ext Γ.S F H F' H' → RvsOk Γ F' σ vs rs → Q ((ks.map kV).zip vs) H') → tPairs (trees ks ts) σ H Q := by
  induction hv with
  | nil =>
    intro ks F H σ ρ t t' rs Q R e hl q
    cases e
    cases ks with
    | nil => exact q [] F H R (Ext.refl R.ex) .nil
    | cons _ _ => cases hl
  | cons h1 h2 ih =>
    intro ks F H σ ρ t t' rs Q R e hl q
    obtain ⟨⟨r1, t1⟩, e1, e⟩ := bind_some e
    obtain ⟨⟨rs2, t2⟩, e2, e⟩ := bind_some e
    cases e
    cases ks with
    | nil => cases hl
    | cons k ks =>
      refine kTE_c ⟨F, ρ, t, _, _, R, e1, fun v F1 H1 R1 x1 k1 => ih R1 e2 (Nat.succ.inj hl) fun vs F2 H2 R2 x2 k2 => ?_⟩
      exact q (v :: vs) F2 H2 R2 (x1.then x2 R2) (.cons (k1.mono x2.f) k2)
theorem VsOk.len {es : List Expr} {g : Env → Γ.T → Option (List Rv × Γ.T)} {ts : List TE} (h : VsOk X Γ es g ts) : es.length = ts.length := by
  induction h with
  | nil => rfl
  | cons _ _ ih => exact congrArg Nat.succ ih
theorem kept_len : ∀ {rs : List Rv} {ds : List PyData}, kept rs = some ds → rs.length = ds.length
  | [], _, e => by cases e; rfl
  | .fro d :: r, _, e => by
    unfold kept at e
    cases z : kept r with
    | none => rw [z] at e; cases e
    | some l => rw [z] at e; cases e; exact congrArg Nat.succ (kept_len z)
  | .loan _ :: _, _, e => by cases e
  | .tray _ :: _, _, e => by cases e
theorem RvsOk.len {F : Hp} {σ : L2.St} : ∀ {vs : List V} {rs : List Rv}, RvsOk Γ F σ vs rs → vs.length = rs.length
  | _, _, .nil => rfl
  | _, _, .cons _ k => congrArg Nat.succ (RvsOk.len k)
theorem pe_dictD {ke : List (Option Expr)} {ks : List Key} {es : List Expr} {ts : List TE} {g : Env → Γ.T → Option (List Rv × Γ.T)} (hk : KsOk X ke ks) (hv : VsOk X Γ es g ts) (hl : ke.length = es.length := by rfl) (hall : ke.all (·.isSome) = true := by rfl) (h0 : ke ≠ [] := by simp) (h15 : ke.length ≤ 15 := by decide) :
    PE X (.Dict ke es pos) (denL Γ (mDict ks g)) := pe_w (pe_disp (pps_of hk hv hl) hall hl h0 h15) fun σ H Q => by
  rintro ⟨F, ρ, t, r, t', R, e, q⟩
  obtain ⟨⟨rs, t1⟩, e1, e⟩ := bind_some e
  obtain ⟨ds, e2, e⟩ := bind_some e
  split at e
  · rename_i hz
    cases e
    intro p hp
    have x0 : Ext [] F H F (upd H p (.dK [])) := Ext.new R.ex hp
    refine pairs_of hv (R.ext0 x0) e1 (by rw [kept_len e2, hz.1]) fun vs F1 H1 R1 x1 k1 => ?_
    have hpS : p ∉ Γ.S := (R.toFin.old hp).2
    have at1 : H1 p = some (.dK []) := x1.h p _ hpS upd_same
    have dq := kept_ok k1 e2
    have hlen : ks.length = vs.length := by rw [k1.len, kept_len e2, hz.1]
    refine ⟨at1, ks.zip vs, ?_, ?_, ?_⟩
    · have key : ∀ (ks : List Key) (vs : List V), (ks.map kV).zip vs = (ks.zip vs).map fun kv => (kV kv.1, kv.2) := by
        intro ks
        induction ks with
        | nil => intro vs; rfl
        | cons k ks ih =>
          intro vs
          cases vs with
          | nil => rfl
          | cons v vs => rw [List.map_cons, List.zip_cons_cons, List.zip_cons_cons, List.map_cons, ih]
      exact key ks vs
    · rw [List.length_zip]; omega
    · have hm : mergeK [] (ks.zip vs) = ks.zip vs := merge_new _ [] (by rw [List.nil_append, List.map_fst_zip (Nat.le_of_eq hlen)]; exact hz.2.1)
      rw [hm]
      have f1 : F1 p = none := x1.n p _ (R.ex.free hp) upd_same
      have x2 : Ext Γ.S F H F1 (upd H1 p (.dK (ks.zip vs))) := by
        refine ⟨x1.f, fun b u z => ?_, fun b u hb z => ?_, fun b u z1 z2 => ?_⟩
        · rw [upd_ne (ne_of_none z f1)]; exact x1.e b u z
        · have hbp : b ≠ p := fun y => by subst y; rw [hp] at z; cases z
          rw [upd_ne hbp]
          exact x1.h b u hb (by rw [upd_ne hbp]; exact z)
        · have hbp : b ≠ p := fun y => by subst y; rw [hp] at z2; cases z2
          exact x1.n b u z1 (by rw [upd_ne hbp]; exact z2)
      have own : Own Γ.K F1 (upd H1 p (.dK (ks.zip vs))) p (.dict (mapD ks ds)) := ⟨f1, _, upd_same, kD_ok hlen dq⟩
      have fr := R.fresh (H' := H1) (a := p) (d := .dict []) ⟨R.ex.free hp, [], x1.h p _ hpS upd_same, .nil⟩ hp
      refine q p F1 _ ?_ x2 ⟨own, hp, fr.old, fr.nS, fr.nsl⟩
      -- the state behind: only the new object differs
      have inn : Γ.In t' (upd H1 p (.dK (ks.zip vs))) := Γ.loc _ H1 _ (fun b hb => upd_ne fun z : b = p => hpS (z ▸ hb)) R1.inn
      refine R.ext x2 inn R1.sF
  · cases e
/-- {} -/
theorem pe_dict0 : PE X (.Dict [] [] pos) (denL Γ (fun _ t => some (.dict [], t))) := pe_w pe_dnewK fun σ H Q => by
  rintro ⟨F, ρ, t, r, t', R, e, q⟩
  cases e
  intro p hp
  have x0 : Ext [] F H F (upd H p (.dK [])) := Ext.new R.ex hp
  exact q p F _ (R.ext0 x0) x0.wide (R.fresh ⟨R.ex.free hp, [], upd_same, .nil⟩ hp)
end

/-! ### the script -/
def Gs (K : PySem.W.Frag) (a : Addr) (F H : Hp) : Gm := { K := K, S := [], T := Unit, In := fun _ _ => True, loc := fun _ _ _ _ h => h, has := fun _ _ _ h _ => absurd h (by simp), F0 := F, H0 := H, ta := fun _ => .ref a }
def cutI (ns : List Int) (n : Int) : List Int := (ns.drop (HT.sIx ns.length 0 none)).take (HT.sIx ns.length ns.length (some n) - HT.sIx ns.length 0 none)
def mScrCut (ns : List Int) (n : Int) (fo : ME Unit) : Env → Unit → Option (PyData × Unit) := fun ρ t => match fo ρ t with
  | some (.tray _, t') => some (.list ((cutI ns n).map .int), t')
  | _ => none
def mScrLen (ns : List Int) (fo : ME Unit) : ME Unit := fun ρ t => match fo ρ t with
  | some (.tray _, t') => some (.fro (.int (ns.length : Int)), t')
  | _ => none
theorem cut_ints (ns : List Int) (n : Int) : cutV (ns.map V.int) none (some n) = (cutI ns n).map V.int := by
  unfold cutV cutI
  simp [List.map_take, List.map_drop]
section
variable {K : PySem.W.Frag} {a : Addr} {F0 H0 : Hp} {X : Cx} {o : Expr} {fo : ME Unit} {ns : List Int} {pos p2 p3 : Pos} {j : Nat} {n : Int}
theorem pe_scrCut (hK : X.K = K) (hS : SqL K F0 a (ns.map V.int)) (hz : ns.length ≤ sizeLine) (ho : PE X o (den (Gs K a F0 H0) fo)) : PE X (.Subscript o (.Slice none (some (.Constant (.int n) j p2)) none p3) pos) (denL (Gs K a F0 H0) (mScrCut ns n fo)) :=
  pe_w (pe_slice sl_list ho po_none (po_some pe_int)) fun σ H Q => by
    rintro ⟨F, ρ, t, r, t', R, e, q⟩
    unfold mScrCut at e
    split at e
    · rename_i t1 e1
      cases e
      refine ⟨F, ρ, t, _, _, R, e1, fun v F1 H1 R1 x1 k1 => ?_⟩
      cases (show v = V.ref a from k1)
      have h1 : SqL K H1 a (ns.map V.int) := same_l R1.ex (same_l R1.step0 hS)
      rw [← hK] at h1
      refine ⟨n, rfl, a, _, rfl, h1, fun p hp => ?_⟩
      rw [cut_ints]
      have x0 : Ext [] F1 H1 F1 (upd H1 p (.lst ((cutI ns n).map V.int))) := Ext.new R1.ex hp
      have fr := R1.fresh (H' := upd H1 p (.lst ((cutI ns n).map V.int))) (d := .list ((cutI ns n).map .int)) ⟨R1.ex.free hp, _, upd_same, dqa_ints _⟩ hp
      have hp0 : H p = none := old_none x1 R1 hp
      exact q p F1 _ (R1.ext0 x0) (x1.then x0.wide (R1.ext0 x0)) ⟨fr.own, hp0, fr.old, fr.nS, fr.nsl⟩
    · cases e
theorem pe_scrLen (hK : X.K = K) (hS : SqL K F0 a (ns.map V.int)) (hg : Gl X "len") (hm : X.mg "len" = none) (ho : PE X o (den (Gs K a F0 H0) fo)) (hs : starEach [o] X.env = (false, eval o X.env) :: starEach [] X.env := by rfl) (hpl : (backTo pos (starEach [] X.env)).any (·.1) = false := by rfl) :
    PE X (.Call (.Name "len" p2) [o] [] pos) (den (Gs K a F0 H0) (mScrLen ns fo)) :=
  pe_w (pe_callB call_len_seq hg hm PySem.boot_len (pa_cons ho pa_nil hs) (by decide) (by decide) hs hpl) fun σ H Q => by
    rintro ⟨F, ρ, t, r, t', R, e, q⟩
    unfold mScrLen at e
    split at e
    · rename_i t1 e1
      cases e
      refine ⟨F, ρ, t, _, _, R, e1, fun v F1 H1 R1 x1 k1 => ?_⟩
      cases (show v = V.ref a from k1)
      have h1 : SqL K H1 a (ns.map V.int) := same_l R1.ex (same_l R1.step0 hS)
      rw [← hK] at h1
      refine ⟨a, _, rfl, .inl h1, ?_⟩
      rw [List.length_map]
      exact q _ F1 H1 R1 x1 (.int _)
    · cases e
end
/-- a def of the script alone -/
def spS (K : PySem.W.Frag) (m : List Int → Option PyData) : Sp := fun vs H Q _ => ∃ a ns d, vs = [.ref a] ∧ SqL K H a (ns.map V.int) ∧ ns.length ≤ 100 ∧ m ns = some d ∧ ∀ v F' H', Same H H' → Same F' H' → Dq K F' v d → Q v H'
def mFunS (n : Nat) (body : List Int → MS Unit) : List Int → Option PyData := fun ns => match body ns (some (.tray 0) :: List.replicate (n - 1) none) () with
  | some (.rt d, _) => some d
  | some (.nx _, _) => some .none
  | _ => none
theorem fn_script {P : Program} {w : World} {K : PySem.W.Frag} {mg : Str → Option Value} {base : Heap} {k : Nat} {f : Addr} {fd : FuncData} {N : List Str} {y x qual : Str} {st : Stmt} {body : List Int → MS Unit} (F : Fun K x qual st f fd) (S : FnScope N [y] (defScope st))
    (hb : ∀ (ns : List Int) (a : Addr) (cdv : Value) (A : Around) (outer : List PySem.Env) (s : Shared) (H : Hp) (E : XK), A.guards = some [] → Room k (A.deeper (PyProof.Rows.envOfC qual (defScope st) s.heap.objs.size f cdv)) → SqL K H a (ns.map V.int) → ns.length ≤ sizeLine →
      PSs (cxOf CX0 P w K mg base N qual (defScope st) f cdv A outer s H E).nox (defBody st) (denS (Gs K a H H) (body ns))) : FnG P w K mg base CX0 (k + 1) f fd [y] (spS K (mFunS N.length body)) := by
  refine Fn.okG F S (fun vs H Q E h => ?_) fun cdv A outer s H vs Q E hg hr h => ?_
  · obtain ⟨a, ns, d, rfl, _⟩ := h
    rfl
  · obtain ⟨a, ns, d, rfl, hS, hl, e, q⟩ := h
    refine ⟨_, (hb ns a cdv A outer s H E hg hr hS (Nat.le_trans hl (by decide))).nox, H, some (.tray 0) :: List.replicate (N.length - 1) none, (), ?_⟩
    have R : Rep (Gs K a H H) H H (L2.start N [.ref a]) (some (.tray 0) :: List.replicate (N.length - 1) none) () := by
      refine { ex := Same.refl H, inn := trivial, sF := fun a ha => absurd ha (by simp [Gs]), step0 := Same.refl H, step := fun a o _ q1 q2 => ⟨q1, q2⟩, len := ?_, slots := fun i w e => ?_, sep := fun i j a d e _ hi => ?_ }
      · simp [L2.start, List.length_append]
      · cases i with
        | zero =>
          cases e
          rfl
        | succ i =>
          rw [List.getElem?_cons_succ, List.getElem?_replicate] at e
          split at e <;> cases e
      · cases i with
        | zero => cases hi
        | succ i =>
          rw [List.getElem?_cons_succ, List.getElem?_replicate] at hi
          split at hi <;> cases hi
    unfold mFunS at e
    split at e
    · rename_i d1 t1 e1
      cases e
      exact ⟨.rt d, (), R, e1, fun v F' H' z k => q v F' H' (z.step0.trans z.ex) z.ex k⟩
    · rename_i ρ1 t1 e1
      cases e
      exact ⟨.nx ρ1, (), R, e1, fun σ' F' H' z _ => q _ F' H' (z.step0.trans z.ex) z.ex .non⟩
    · cases e

/-! ### defs that take the tray -/
def spT (K : PySem.W.Frag) (fk : Str) (bs : List Bool) (m : Tr → List PyData → Option (PyData × Tr)) : Sp := fun vs H Q _ => ∃ ta g F t ds d t' ws, vs = .ref ta :: ws ∧ Same F H ∧ F ta = none ∧ F g = none ∧ TrAt fk ta g t H ∧ ArgOk K [ta, g] F H bs ws ds ∧ m t ds = some (d, t') ∧
  ∀ v F' H', Ext [ta, g] F H F' H' → F' ta = none → F' g = none → TrAt fk ta g t' H' → Dq K F' v d → Q v H'
def entryT (n : Nat) (bs : List Bool) (ds : List PyData) : Env := some (.tray 0) :: (slotsOf bs ds ++ List.replicate (n - 1 - ds.length) none)
def mFunT (n : Nat) (bs : List Bool) (body : MS Tr) : Tr → List PyData → Option (PyData × Tr) := fun t ds => match body (entryT n bs ds) t with
  | some (.rt d, t') => some (d, t')
  | some (.nx _, t') => some (.none, t')
  | _ => none
theorem entryT_rep {K : PySem.W.Frag} {fk : Str} {ta g : Addr} {t : Tr} {F H : Hp} {bs : List Bool} {vs : List V} {ds : List PyData} {N : List Str} (sm : Same F H) (h1 : F ta = none) (h2 : F g = none) (inn : TrAt fk ta g t H) (h : ArgOk K [ta, g] F H bs vs ds) (hn : 0 < N.length) :
    Rep (Gt K fk ta g F H) F H (L2.start N (.ref ta :: vs)) (entryT N.length bs ds) t := by
  have hl := slotsOf_len h
  have hd : ds.length = vs.length := by rw [h.len.1, h.len.2]
  have noO : ∀ (i : Nat) (d : PyData), (entryT N.length bs ds)[i]? ≠ some (some (.own d)) := fun i d hi => by
    unfold entryT at hi
    cases i with
    | zero => cases hi
    | succ i =>
      rw [List.getElem?_cons_succ] at hi
      by_cases hi2 : i < (slotsOf bs ds).length
      · rw [List.getElem?_append_left hi2] at hi
        exact noOwn i d hi
      · rw [List.getElem?_append_right (by omega), List.getElem?_replicate] at hi
        split at hi <;> cases hi
  refine { ex := sm, inn := inn, sF := fun a ha => ?_, step0 := Same.refl F, step := fun a o _ q1 q2 => ⟨q1, q2⟩, len := ?_, slots := fun i w e => ?_, sep := fun i j a d e _ hi => (noO i d hi).elim }
  · rcases List.mem_cons.mp ha with rfl | ha
    · exact h1
    · cases List.mem_singleton.mp ha
      exact h2
  · unfold entryT L2.start
    rw [List.length_cons, List.length_append, List.length_append, List.length_map, List.length_replicate, List.length_replicate, hl, hd, List.length_cons]
    omega
  · unfold entryT at e
    cases i with
    | zero =>
      cases e
      rfl
    | succ i =>
      rw [List.getElem?_cons_succ] at e
      by_cases hi : i < (slotsOf bs ds).length
      · rw [List.getElem?_append_left hi] at e
        have := entry_slot (Γ := Gt K fk ta g F H) (N := N) rfl rfl rfl rfl (pre := [.ref ta]) (pe := [some (.tray 0)]) rfl h (i + 1) w (by simpa using e)
        rcases this with q | q
        · simp at q
        · have hz : (L2.start N (.ref ta :: vs))[i + 1]? = ((([.ref ta] : List V) ++ vs).map some)[i + 1]? := by
            unfold L2.start
            rw [List.getElem?_append_left (by rw [List.length_map, List.length_cons]; omega), List.singleton_append]
          cases w <;> (unfold SlotOk at q ⊢; rw [hz]; exact q)
      · rw [List.getElem?_append_right (by omega), List.getElem?_replicate] at e
        split at e <;> cases e
/-- the rule: a def with the tray -/
theorem fn_tray {P : Program} {w : World} {K : PySem.W.Frag} {fk : Str} {mg : Str → Option Value} {base : Heap} {k : Nat} {f : Addr} {fd : FuncData} {N ps : List Str} {x qual : Str} {st : Stmt} {bs : List Bool} {body : MS Tr} (F : Fun K x qual st f fd) (S : FnScope N ps (defScope st)) (hn : bs.length + 1 = ps.length) (hN : 0 < N.length)
    (hb : ∀ (ta g : Addr) (cdv : Value) (A : Around) (outer : List PySem.Env) (s : Shared) (H F0 : Hp) (E : XK), A.guards = some [] → Room k (A.deeper (PyProof.Rows.envOfC qual (defScope st) s.heap.objs.size f cdv)) →
      PSs (cxOf CX0 P w K mg base N qual (defScope st) f cdv A outer s H E).nox (defBody st) (denS (Gt K fk ta g F0 H) body)) : FnG P w K mg base CX0 (k + 1) f fd ps (spT K fk bs (mFunT N.length bs body)) := by
  refine Fn.okG F S (fun vs H Q E h => ?_) fun cdv A outer s H vs Q E hg hr h => ?_
  · obtain ⟨ta, g, F0, t, ds, d, t', ws, rfl, _, _, _, _, a, _⟩ := h
    rw [List.length_cons, a.len.1, hn]
  · obtain ⟨ta, g, F0, t, ds, d, t', ws, rfl, sm, f1, f2, inn, a, e, q⟩ := h
    refine ⟨_, (hb ta g cdv A outer s H F0 E hg hr).nox, F0, entryT N.length bs ds, t, ?_⟩
    unfold mFunT at e
    have fin : ∀ {F' H' : Hp} {t2 : Tr}, Fin (Gt K fk ta g F0 H) F' H' t2 → Ext [ta, g] F0 H F' H' := fun {F' H' t2} z => ⟨z.step0, z.ex, fun b o hS hb => ?_, fun b o q1 q2 => ?_⟩
    · split at e
      · rename_i d1 t1 e1
        cases e
        exact ⟨.rt d, t', entryT_rep sm f1 f2 inn a hN, e1, fun v F' H' z k => q v F' H' (fin z) (z.sF ta (by show ta ∈ [ta, g]; simp)) (z.sF g (by show g ∈ [ta, g]; simp)) z.inn k⟩
      · rename_i ρ1 t1 e1
        cases e
        exact ⟨.nx ρ1, t', entryT_rep sm f1 f2 inn a hN, e1, fun σ' F' H' z _ => q _ F' H' (fin z.toFin) (z.sF ta (by show ta ∈ [ta, g]; simp)) (z.sF g (by show g ∈ [ta, g]; simp)) z.inn .non⟩
      · cases e
    · by_cases hz : F0 b = none
      · exact (z.step b o hS hz hb).2
      · cases z2 : F0 b with
        | none => exact absurd z2 hz
        | some u =>
          have e1 := sm b u z2
          rw [hb] at e1
          cases e1
          exact z.ex b o (z.step0 b o z2)
    · by_cases hS : b ∈ [ta, g]
      · exact z.sF b hS
      · exact (z.step b o hS q1 q2).1
def mCallT (bs : List Bool) (m : Tr → List PyData → Option (PyData × Tr)) (fs : Env → Tr → Option (List Rv × Tr)) : ME Tr := fun ρ t => match fs ρ t with
  | some (.tray 0 :: rs, t1) => do
    let ds ← args ρ bs rs
    let (d, t2) ← m t1 ds
    pure (.fro d, t2)
  | _ => none
section
variable {K : PySem.W.Frag} {fk : Str} {ta g : Addr} {F0 H0 : Hp} {X : Cx} {a : Expr} {es : List Expr} {pos p : Pos} {x : Str} {k : Nat} {f : Addr} {fd : FuncData} {ps : List Str} {bs : List Bool} {m : Tr → List PyData → Option (PyData × Tr)} {ga : Env → Tr → Option (List Rv × Tr)}
theorem w_callT {E : XK} (σ : L2.St) (H : Hp) (Q : VK) : den (Gt K fk ta g F0 H0) (mCallT bs m ga) σ H Q → denA (Gt K fk ta g F0 H0) ga σ H fun vs H1 => spT K fk bs m vs H1 Q E := by
  rintro ⟨F, ρ, t, r, t', R, e, q⟩
  unfold mCallT at e
  split at e
  · rename_i rs t1 e1
    obtain ⟨ds, e2, e⟩ := bind_some e
    obtain ⟨⟨d, t2⟩, e3, e⟩ := bind_some e
    cases e
    refine ⟨F, ρ, t, _, _, R, e1, fun vs F1 H1 R1 x1 k1 => ?_⟩
    cases k1 with
    | @cons v vs _ _ k0 k1 =>
      cases (show v = V.ref ta from k0)
      refine ⟨ta, g, F1, _, ds, d, _, vs, rfl, R1.ex, R1.sF ta (by show ta ∈ [ta, g]; simp), R1.sF g (by show g ∈ [ta, g]; simp), R1.inn, args_ok R1 k1 e2, e3, fun v F2 H2 x2 f1 f2 i2 k2 => ?_⟩
      have R2 : Rep (Gt K fk ta g F0 H0) F2 H2 σ ρ _ := R1.ext x2 i2 fun b hb => by
        rcases List.mem_cons.mp hb with rfl | hb
        · exact f1
        · cases List.mem_singleton.mp hb
          exact f2
      exact q v F2 H2 R2 (x1.then x2 R2) k2
  · cases e
theorem pe_callT (G : FnG X.prog X.w X.K X.mg X.base CX0 k f fd ps (spT K fk bs m)) (hg : X.A.guards = some []) (hr : Room k X.A) (hgl : Gl X x) (hm : X.mg x = some (.ref f)) (hk : PySem.W.keepIn X.K (.ref f) = true) (hb : Binds X.K fd ps [])
    (ha : PA X (a :: es) (denA (Gt K fk ta g F0 H0) ga)) (hdb : (x == ("__debug__" : Str)) = false := by decide) (he : starEach (a :: es) X.env = (false, eval a X.env) :: starEach es X.env := by rfl) (hpl : (backTo pos (starEach es X.env)).any (·.1) = false := by rfl) :
    PE X (.Call (.Name x p) (a :: es) [] pos) (den (Gt K fk ta g F0 H0) (mCallT bs m ga)) := pe_w (pe_callG (E := E0) G hg hr hgl hm hk hb pass0 ha hdb he hpl) w_callT
end
end Mi
/-! A law's def and its end. -/
namespace Mi
open PySem L2

/-- the tray as the def that makes it answers it -/
def trD (fk : Str) (t : Tr) : PyData := .dict ((.str fk, .list (t.far.map .int)) :: t.es.map fun e => (.str e.1, .int e.2))
section
variable {K : PySem.W.Frag} {F H : Hp}
theorem dqk_es : ∀ {es : List (Str × Int)} {kvs : List (Key × V)}, DqK K F kvs (es.map fun e => (PyData.str e.1, PyData.int e.2)) → kvs = es.map entE
  | [], _, .nil => rfl
  | (x, i) :: r, (k, v) :: kvs, h => by
    rw [List.map_cons] at h
    generalize hd : (PyData.str (x, i).1, PyData.int (x, i).2) = d at h
    cases h with
    | cons h1 h2 =>
      rename_i d2
      have e1 := (Prod.mk.inj hd).1
      have e2 := (Prod.mk.inj hd).2
      cases e2
      cases h1
      rw [List.map_cons, dqk_es h2]
      cases k with
      | inl z => cases e1
      | inr z => cases e1; rfl
theorem dqa_int : ∀ {zs : List Int} {vs : List V}, DqA K F vs (zs.map .int) → vs = zs.map V.int
  | [], _, h => by cases h; rfl
  | z :: r, _, h => by
    rw [List.map_cons] at h
    cases h with
    | cons h1 h2 =>
      cases h1
      rw [List.map_cons, dqa_int h2]
theorem trD_at {fk : Str} {t : Tr} {v : V} (h : Dq K F v (trD fk t)) (sm : Same F H) : ∃ ta g, v = .ref ta ∧ TrAt fk ta g t H := by
  unfold trD at h
  cases h with
  | @dct ta kvs _ hF hk =>
    generalize hd : (PyData.str fk, PyData.list (t.far.map .int)) = d at hk
    cases hk with
    | @cons k v0 vs d0 ds h1 h2 =>
      have e1 := (Prod.mk.inj hd).1
      have e2 := (Prod.mk.inj hd).2
      cases e2
      cases h1 with
      | @lst g xs _ hg ha =>
        cases k with
        | inl z => cases e1
        | inr z =>
          cases e1
          refine ⟨ta, g, rfl, ?_, ?_⟩
          · rw [sm _ _ hF, dqk_es h2]; rfl
          · rw [sm _ _ hg, dqa_int ha]
end
def spLaw (K : PySem.W.Frag) (n : Nat) : Sp := fun vs H Q _ => ∃ (a : Addr) (ns : List Int), vs = [.ref a] ∧ SqL K H a (ns.map V.int) ∧ ns.length ≤ n ∧ (∀ z ∈ ns, Builtin.Int.intBits z ≤ 1048576) ∧ ∀ H', Q (.bl true) H'
/-- the names of a law, the tray's set -/
def entryL (n i : Nat) : Env := (List.replicate n none).set i (some (.tray 0))
theorem ps_in {X : Cx} {ss : List Stmt} {A : Type} {t : A → TS} (h : ∀ a, PSs X ss (t a)) : PSs X ss (fun D σ H => ∃ a, t a D σ H) := ⟨fun pins s σ H D I q => let ⟨a, q⟩ := q; (h a).run pins s σ H D I q⟩
/-- law(script): tray = make(script), then the rest -/
theorem fn_law {P : Program} {w : World} {K : PySem.W.Frag} {fk : Str} {mg : Str → Option Value} {base : Heap} {k i n : Nat} {f : Addr} {fd : FuncData} {N : List Str} {y x qual : Str} {st s1 : Stmt} {rest : List Stmt} {mt : List Int → Option PyData} {body : MS Tr} (F : Fun K x qual st f fd) (S : FnScope N [y] (defScope st))
    (hst : defBody st = s1 :: rest) (hi : i < N.length) (hn : n ≤ 100)
    (h1 : ∀ (cdv : Value) (A : Around) (outer : List PySem.Env) (s : Shared) (H : Hp) (E : XK), A.guards = some [] → Room k (A.deeper (PyProof.Rows.envOfC qual (defScope st) s.heap.objs.size f cdv)) →
      PS (cxOf CX0 P w K mg base N qual (defScope st) f cdv A outer s H E).nox s1 (tAsg (fun σ H Q => tVar 0 σ H fun v H1 => spS K mt [v] H1 Q E0) (gName i)))
    (hb : ∀ (ta g : Addr) (cdv : Value) (A : Around) (outer : List PySem.Env) (s : Shared) (H H0 F0 : Hp) (E : XK), A.guards = some [] → Room k (A.deeper (PyProof.Rows.envOfC qual (defScope st) s.heap.objs.size f cdv)) →
      PSs (cxOf CX0 P w K mg base N qual (defScope st) f cdv A outer s H E).nox rest (denS (Gt K fk ta g F0 H0) body))
    (hl : ∀ ns : List Int, ns.length ≤ n → (∀ z ∈ ns, Builtin.Int.intBits z ≤ 1048576) → ∃ t0, mt ns = some (trD fk t0) ∧ ∃ t', body (entryL N.length i) t0 = some (.rt (.bool true), t')) : FnG P w K mg base CX0 (k + 1) f fd [y] (spLaw K n) := by
  refine Fn.okG F S (fun vs H Q E h => ?_) fun cdv A outer s H vs Q E hg hr h => ?_
  · obtain ⟨a, ns, rfl, _⟩ := h
    rfl
  · obtain ⟨a, ns, rfl, hS, hlen, hbits, q⟩ := h
    obtain ⟨t0, e0, t', e1⟩ := hl ns hlen hbits
    rw [hst]
    refine ⟨_, (pss_cons (h1 cdv A outer s H E hg hr) (ps_in fun x : Addr × Addr × Hp × Hp => hb x.1 x.2.1 cdv A outer s H x.2.2.1 x.2.2.2 E hg hr)).nox, ?_⟩
    have h0 : (L2.start N [.ref a])[0]? = some (some (V.ref a)) := rfl
    refine ⟨_, h0, a, ns, _, rfl, hS, by omega, e0, fun v F1 H1 s1 s2 dq => ?_⟩
    obtain ⟨ta, g, rfl, T⟩ := trD_at dq s2
    refine ⟨⟨ta, g, H1, fun _ => none⟩, fun _ => none, entryL N.length i, t0, .rt (.bool true), t', ?_, e1, fun v F' H' z k => ?_⟩
    · have only : ∀ (j : Nat) (w : Val), (entryL N.length i)[j]? = some (some w) → i = j ∧ w = .tray 0 := fun j w e => by
        unfold entryL at e
        rcases get_set e with ⟨rfl, z⟩ | ⟨_, z⟩
        · cases z; exact ⟨rfl, rfl⟩
        · rw [List.getElem?_replicate] at z
          split at z <;> cases z
      refine { ex := fun b u z => (by cases z), inn := T, sF := fun _ _ => rfl, step0 := Same.refl _, step := fun b o _ q1 q2 => ⟨q1, q2⟩, len := ?_, slots := fun j w e => ?_, sep := fun j k b d d' _ hj => ?_ }
      · unfold entryL L2.start
        rw [List.length_set, List.length_set, List.length_append, List.length_replicate, List.length_map, List.length_replicate, List.length_singleton]
        omega
      · obtain ⟨rfl, rfl⟩ := only j w e
        show ((L2.start N [.ref a]).set i _)[i]? = _
        rw [List.getElem?_set_self (by unfold L2.start; rw [List.length_append, List.length_map, List.length_replicate, List.length_singleton]; omega)]
        rfl
      · obtain ⟨_, z⟩ := only j _ hj
        cases z
    · cases (show Dq K F' v (.bool true) from k)
      exact q H'

/-! ### the end -/
/-- what is tracked when the law is called: the script, unless the program itself made it -/
def only1 (K : PySem.W.Frag) (a : Addr) (o : Obj) (u : HO) : Hp := fun b => if b = a ∧ K.lookup a = none then some (.frz o u) else none
section
variable {K : PySem.W.Frag} {a b : Addr} {o : Obj} {u : HO}
theorem only1_in {x : HO} (h : only1 K a o u b = some x) : b = a ∧ K.lookup a = none ∧ x = .frz o u := by
  unfold only1 at h
  split at h
  · rename_i z
    cases h
    exact ⟨z.1, z.2, rfl⟩
  · cases h
theorem only1_no (h : b ≠ a ∨ ∃ x, K.lookup a = some x) : only1 K a o u b = none := by
  unfold only1
  rw [if_neg]
  rintro ⟨z1, z2⟩
  rcases h with h | ⟨x, h⟩
  · exact h z1
  · rw [h] at z2; cases z2
end
theorem end_call {P : Program} {w : World} {K : PySem.W.Frag} {mg mb : Str → Option Value} {k n : Nat} {fa a : Addr} {fd : FuncData} {x : Str} {s₁ : Shared} {vs : List Value} {ns : List Int}
    (KX : K.In s₁.heap) (hns : s₁.heap.Ns mainGlobals mg) (hb : s₁.heap.Ns builtinsNs mb) (hbb : ∀ y : Str, y ≠ "__name__" → mb y = bootBuiltins y) (hlim : s₁.heap.NoLimit) (hg : s₁.gens = #[])
    (ha : s₁.heap.get? a = some { cls := .type "list", data := .seq vs.toArray }) (hi : PyProof.Rows.IntsAre vs ns) (hl : ns.length ≤ n) (hz : ∀ z ∈ ns, Builtin.Int.intBits z ≤ 1048576) (hn : n ≤ sizeLine) (hr : Room k callerA)
    (F : ∀ base : Heap, K.In base → base.Ns mainGlobals mg → FnG P w K mg base CX0 k fa fd [x] (spLaw K n)) (hbind : ∀ (s : Shared) (u : Value), BindsTo s fd ⟨[u], []⟩ [(x, u)]) :
    codeAny (model P w) callerA (.call (.ref fa) ⟨[.ref a], []⟩) (fun r s' => r = .ok (.ret (.bool true)) ∧ PySem.OldK s₁.heap s'.heap ∧ s'.os = s₁.os ∧ PyProof.Rows.AllBare s'.gens) s₁ := by
  have rv : Vals (ns.map V.int) vs := vals_ints hi
  let ob : Obj := { cls := .type "list", data := .seq vs.toArray }
  let H : Hp := only1 K a ob (.lst (ns.map V.int))
  have sz : (ns.map V.int).length ≤ sizeLine := by rw [List.length_map]; omega
  have hS : SqL K H a (ns.map V.int) := by
    cases q : K.lookup a with
    | none => exact .inl (.inr ⟨ob, if_pos ⟨rfl, q⟩⟩)
    | some o =>
      have z := KX a o q
      rw [ha] at z
      cases z
      exact .inr ⟨_, _, _, q, rfl, rfl, rfl, by rw [List.size_toArray, ← rv.length]; exact sz, by simpa using rv⟩
  have hok : HOk P w H s₁.heap := fun b u z => by
    obtain ⟨rfl, _, rfl⟩ := only1_in z
    exact ⟨ha, sz, vs, _, rv, ha⟩
  -- what is not the script's object stands in the hidden heap too
  have keep : ∀ {b : Addr} {o : Obj}, s₁.heap.get? b = some o → (b ≠ a ∨ ∃ y, K.lookup a = some y) → (hidT s₁.heap H).get? b = some o := fun e h => hidT_get e (only1_no h)
  have kin : K.In (hidT s₁.heap H) := fun b o e => keep (KX b o e) (by
    by_cases z : b = a
    · subst z; exact .inr ⟨o, e⟩
    · exact .inl z)
  have dicts : ∀ {b : Addr} {m : Str → Option Value}, s₁.heap.Ns b m → (hidT s₁.heap H).Ns b m := fun {b m} ⟨o, es, ep, e, d, r⟩ => ⟨o, es, ep, keep e (.inl fun z => by
    subst z
    rw [ha] at e
    cases e
    cases (show Data.seq vs.toArray _ = Data.dict es ep from d)), d, r⟩
  have M : Mod K mg (hidT s₁.heap H) := ⟨kin, dicts hns, ⟨mb, dicts hb, hbb⟩, let ⟨m, q1, q2⟩ := hlim; ⟨m, dicts q1, q2⟩⟩
  have e0 : Env0 P w K mg (hidT s₁.heap H) callerA [] s₁ H := { frames := rfl, mod := M, bs := fun b o e => of_hidT e, bsz := Nat.le_of_eq (hidT_size _ _), funs := trivial, frf := fun b hb => (by cases hb), hok := hok, bare := .of_eq hg }
  refine codeAny_mono ((F _ kin (dicts hns)).run callerA [] s₁ H ⟨[.ref a], []⟩ [.ref a] [.ref a] (fun v _ => v = .bl true) E0 rfl hr e0 (hbind s₁ (.ref a)) (.cons rfl .nil) ⟨a, ns, rfl, hS, hl, hz, fun _ => rfl⟩) fun r s' h => ?_
  match r, h with
  | .error e, h => exact h.elim
  | .ok .next, h => exact False.elim h
  | .ok .brk, h => exact False.elim h
  | .ok .cont, h => exact False.elim h
  | .ok (.ret u), ⟨v, H', os, bare, un, hok', r', q⟩ =>
    cases (show v = V.bl true from q)
    cases (show u = Value.bool true from r')
    refine ⟨rfl, .of_keep fun b o e => ?_, os, bare⟩
    cases z : H b with
    | none => exact un.keep b o e z (by intro y; cases y) (by simp)
    | some u =>
      obtain ⟨rfl, _, rfl⟩ := only1_in z
      have z2 := (hok' b _ (un.frzs b _ _ z)).1
      rw [ha] at e
      cases e
      exact z2
theorem walk_law {l : PySem.W.OpenLaw} {n k : Nat} {q : Program} {loose : List Str} {XP : (Str → Option Value) → Heap → Prop} {YP : World → Heap → Prop} {d : PySem.DefRec} {K : Params → PySem.W.Frag} {x : Str}
    (hn : l.most = some n) (hn2 : n ≤ sizeLine) (hdf : d.params.defaults = []) (hr : Room k callerA) (hY : ∀ (w : World) (h : Heap), YP w h → (K w.params).In h)
    (F : ∀ (w : World) (mg : Str → Option Value) (fa : Addr) (h : Heap), (K w.params).In h → h.Ns mainGlobals mg → mg d.name = some (.ref fa) →
      ∃ fd : FuncData, (∀ (s : Shared) (u : Value), BindsTo s fd ⟨[u], []⟩ [(x, u)]) ∧ ∀ base : Heap, (K w.params).In base → base.Ns mainGlobals mg → FnG l.prog w (K w.params) mg base CX0 k fa fd [x] (spLaw (K w.params) n)) :
    PySem.W.WalkO q loose XP YP l.row.toRowW d [] (fun f vs => PySem.call f vs) :=
  Att.attach_callB hn hdf fun w _ _ mg _ fa _ _ _ _ a vs ns G Y _ _ _ hmg hobj hints hlen hz hg =>
    let ⟨_, hb, hF⟩ := F w mg fa _ (hY w _ Y) G.T.g hmg
    end_call (hY w _ Y) G.T.g G.T.b G.T.builtins G.T.nolimit hg hobj hints hlen hz hn2 hr hF hb
end Mi
/-! x op= e; list(x) of one's own; xs.append(ys.pop(k)); what is known of a def. -/
namespace Mi
open PySem L2

section
variable {X : Cx}
def addI : PyData → PyData → Option PyData
  | .int i, .int j => some (.int (i + j))
  | .str x, .str y => if x.length + y.length ≤ sizeLine then some (.str (x ++ y)) else none
  | _, _ => none
theorem ip_orD : PIp X .BitOr (rD X.K orD) := op_ints0 iop_or (d := fun i j => .int (Builtin.bitOr i j)) (fun F i j => .int _) fun x y z e => by
  unfold orD at e
  split at e
  · cases e; exact ⟨_, _, rfl, rfl, rfl⟩
  · cases e
theorem ip_andD : PIp X .BitAnd (rD X.K andD) := op_ints0 iop_and (d := fun i j => .int (Builtin.bitAnd i j)) (fun F i j => .int _) fun x y z e => by
  unfold andD at e
  split at e
  · cases e; exact ⟨_, _, rfl, rfl, rfl⟩
  · cases e
theorem ip_xorD : PIp X .BitXor (rD X.K xorD) := op_ints0 iop_xor (d := fun i j => .int (Builtin.bitXor i j)) (fun F i j => .int _) fun x y z e => by
  unfold xorD at e
  split at e
  · cases e; exact ⟨_, _, rfl, rfl, rfl⟩
  · cases e
theorem ip_subD : PIp X .Sub (rD X.K subD) := op_ints0 iop_sub (d := fun i j => .int (i - j)) (fun F i j => .int _) fun x y z e => by
  unfold subD at e
  split at e
  · cases e; exact ⟨_, _, rfl, rfl, rfl⟩
  · cases e
theorem ip_modD : PIp X .Mod (rD X.K modD) := op_ints iop_mod (d := fun i j => .int (i % j)) (fun F i j => .int _) fun x y z e => by
  unfold modD at e
  split at e
  · split at e
    · rename_i hc
      cases e; exact ⟨_, _, rfl, rfl, hc, rfl⟩
    · cases e
  · cases e
theorem ip_fdivD : PIp X .FloorDiv (rD X.K fdivD) := op_ints iop_fdivW (d := fun i j => .int (i / j)) (fun F i j => .int _) fun x y z e => by
  unfold fdivD at e
  split at e
  · split at e
    · rename_i hc
      cases e; exact ⟨_, _, rfl, rfl, hc, rfl⟩
    · cases e
  · cases e
theorem ip_shlD : PIp X .LShift (rD X.K shlD) := op_ints iop_shlW (d := fun i j => .int (i * 2 ^ j.toNat)) (fun F i j => .int _) fun x y z e => by
  unfold shlD at e
  split at e
  · split at e
    · rename_i hc
      cases e; exact ⟨_, _, rfl, rfl, hc, rfl⟩
    · cases e
  · cases e
theorem ip_shrD : PIp X .RShift (rD X.K shrD) := op_ints iop_shr (d := fun i j => .int (i / 2 ^ j.toNat)) (fun F i j => .int _) fun x y z e => by
  unfold shrD at e
  split at e
  · split at e
    · rename_i hc
      cases e; exact ⟨_, _, rfl, rfl, hc, rfl⟩
    · cases e
  · cases e
theorem ip_addD : PIp X .Add (rD X.K addI) := by
  rintro pins s σ H v w a b Q I ra rb ⟨F, x, y, z, sm, dx, dy, e, q⟩
  unfold addI at e
  split at e
  · cases e
    exact iop_add pins s σ H _ _ a b Q I ra rb ⟨_, _, dx, dy, q _ F H (Ext.refl sm) (.int _)⟩
  · split at e
    · rename_i hz
      cases e
      exact iop_add_str pins s σ H _ _ a b Q I ra rb ⟨_, _, dx, dy, hz, q _ F H (Ext.refl sm) (.str _)⟩
    · cases e
  · cases e
end
/-- x op= e -/
def cur (ρ : Env) (i : Nat) : Option PyData := match ρ[i]? with
  | some (some (.fro x)) => some x
  | some (some (.bor x)) => if flat x = true then some x else none
  | _ => none
theorem cur_ok {Γ : Gm} {F H : Hp} {σ : L2.St} {ρ : Env} {t : Γ.T} {i : Nat} {x : PyData} (R : Rep Γ F H σ ρ t) (h : cur ρ i = some x) : ∃ v, σ[i]? = some (some v) ∧ Dq Γ.K F v x := by
  unfold cur at h
  split at h
  · rename_i d e
    cases h
    exact R.slots i _ e
  · rename_i d e
    split at h
    · rename_i hf
      cases h
      obtain ⟨v, e1, o⟩ := R.slots i _ e
      refine ⟨v, e1, ?_⟩
      rcases o with o | ⟨a, u, _, o, _⟩
      · exact o
      · cases x <;> first | exact o.elim | cases hf
    · cases h
  · cases h
def mAug {T : Type} (i : Nat) (g : PyData → PyData → Option PyData) (f : ME T) : MS T := fun ρ t => match cur ρ i with
  | some x => do
    let (r, t1) ← f ρ t
    let y ← rd ρ r
    let z ← g x y
    pure (.nx (ρ.set i (some (.fro z))), t1)
  | none => none
section
variable {Γ : Gm} {X : Cx} {a b : Expr} {fa fb : ME Γ.T} {pos p2 : Pos}
theorem ps_augD {i : Nat} {x : Str} {op : Operator} {g : PyData → PyData → Option PyData} (hN : X.N.Nodup) (hi : X.N[i]? = some x) (hx : Loc X.env.scope x) (he : PE X a (den Γ fa)) (ho : PIp X op (rD Γ.K g))
    (hf : X.fn x = true ∨ X.env.scope.names.lookup x = some .local := by first | exact .inl rfl | exact .inr rfl | assumption) : PS X (.AugAssign (.Name x p2) op a pos) (denS Γ (mAug i g fa)) := ps_w (ps_aug hN hi hx he ho hf) fun D σ H => by
  rintro ⟨F, ρ, t, r, t', R, e, q⟩
  unfold mAug at e
  split at e
  · rename_i x e0
    obtain ⟨⟨r1, t1⟩, e1, e⟩ := bind_some e
    obtain ⟨y, ey, e⟩ := bind_some e
    obtain ⟨z, ez, e⟩ := bind_some e
    cases e
    obtain ⟨v, hv, dv⟩ := cur_ok R e0
    refine ⟨v, hv, F, ρ, t, _, _, R, e1, fun w F1 H1 R1 x1 k1 => ?_⟩
    exact ⟨F1, x, y, z, R1.ex, (dv.mono x1.f).dv R1.ex, R1.read k1 ey, ez, fun u F2 H2 x2 k2 => q _ F2 H2 ((R1.ext0 x2).setF k2) (x1.f.trans x2.f)⟩
  · cases e
/-- list(x), one's own -/
def mListL {T : Type} (g : Env → T → Option (List Rv × T)) : Env → T → Option (PyData × T) := fun ρ t => do
  let (rs, t1) ← g ρ t
  let xs ← rds ρ rs
  match xs with
  | [.list ds] => some (.list ds, t1)
  | [.tuple ds] => some (.list ds, t1)
  | _ => none
variable {ga : Env → Γ.T → Option (List Rv × Γ.T)} {p : Pos}
theorem pe_listL (hK : X.K = Γ.K) (hg : Gl X "list") (hm : X.mg "list" = none) (hv : bootBuiltins "list" = some (.type "list")) (ha : PA X [a] (denA Γ ga)) (he : starEach [a] X.env = (false, eval a X.env) :: starEach [] X.env := by rfl) (hpl : (backTo pos (starEach [] X.env)).any (·.1) = false := by rfl) :
    PE X (.Call (.Name "list" p) [a] [] pos) (denL Γ (mListL ga)) := pe_w (pe_callTy call_list_of hg hm hv ha (by decide) (by decide) he hpl) fun σ H Q => by
  rintro ⟨F, ρ, t, r, t', R, e, q⟩
  obtain ⟨⟨rs, t1⟩, e1, e⟩ := bind_some e
  obtain ⟨xs, e2, e⟩ := bind_some e
  refine ⟨F, ρ, t, _, _, R, e1, fun vs F1 H1 R1 x1 k1 => ?_⟩
  have dx := reads R1 k1 e2
  have fin : ∀ (ds : List PyData) (ws : List V) (p : Addr), H1 p = none → DqA Γ.K F1 ws ds → some (PyData.list ds, t1) = some (r, t') → Q (.ref p) (upd H1 p (.lst ws)) := fun ds ws p hp k e => by
    cases e
    have x0 : Ext [] F1 H1 F1 (upd H1 p (.lst ws)) := Ext.new R1.ex hp
    have fr := R1.fresh (H' := upd H1 p (.lst ws)) (d := .list ds) ⟨R1.ex.free hp, _, upd_same, k⟩ hp
    exact q p F1 _ (R1.ext0 x0) (x1.then x0.wide (R1.ext0 x0)) ⟨fr.own, old_none x1 R1 hp, fr.old, fr.nS, fr.nsl⟩
  split at e
  · obtain ⟨v, rfl, l, ws, rfl, h1, k⟩ := f1 dx
    rw [hK]
    exact ⟨l, ws, rfl, .inl (.of h1), fun p hp => fin _ ws p hp k e⟩
  · obtain ⟨v, rfl, l, ws, rfl, h1, k⟩ := f1 dx
    rw [hK]
    exact ⟨l, ws, rfl, .inr (same_t R1.ex h1), fun p hp => fin _ ws p hp k e⟩
  · cases e
end

/-- a statement behind which slot i is kept -/
def mEnd {T : Type} (i : Nat) (f : MS T) : MS T := fun ρ t => match f ρ t with
  | some (.nx ρ1, t1) => match ρ1[i]? with
    | some (some (.own d)) => some (.nx (ρ1.set i (some (.fro d))), t1)
    | _ => some (.nx ρ1, t1)
  | r => r
theorem ps_end {Γ : Gm} {X : Cx} {st : Stmt} {f : MS Γ.T} (i : Nat) (h : PS X st (denS Γ f)) : PS X st (denS Γ (mEnd i f)) := ps_w h fun D σ H => by
  rintro ⟨F, ρ, t, r, t', R, e, q⟩
  unfold mEnd at e
  split at e
  · rename_i ρ1 t1 e1
    split at e
    · rename_i d e2
      cases e
      refine ⟨F, ρ, t, _, _, R, e1, fun σ' F' H' R' s => ?_⟩
      obtain ⟨F2, R2, s2⟩ := R'.fz e2
      exact q σ' F2 H' R2 (s.trans s2)
    · cases e
      exact ⟨F, ρ, t, _, _, R, e1, q⟩
  · exact ⟨F, ρ, t, r, t', R, e, q⟩
/-! ### what is known of a def -/
structure Known (P : Program) (w : World) (K : PySem.W.Frag) (mg : Str → Option Value) (base : Heap) (k : Nat) (x : Str) (st : Stmt) (f : Addr) (fd : FuncData) (ps : List Str) (sp : Sp) : Prop where
  m : mg x = some (.ref f)
  F : Fun K x x st f fd
  b : Binds K fd ps []
  G : FnG P w K mg base CX0 k f fd ps sp
theorem Known.mono {P : Program} {w : World} {K : PySem.W.Frag} {mg : Str → Option Value} {base : Heap} {j k : Nat} {x : Str} {st : Stmt} {f : Addr} {fd : FuncData} {ps : List Str} {sp : Sp} (h : Known P w K mg base k x st f fd ps sp) (le : k ≤ j) : Known P w K mg base j x st f fd ps sp := ⟨h.m, h.F, h.b, h.G.mono le⟩
theorem hu64 {k : Nat} {A : Around} (hr : Room k A) : A.units + 64 < cLine := by have := hr.un; omega
section
variable {Γ : Gm} {X : Cx} {a : Expr} {es : List Expr} {pos p : Pos} {x : Str} {st : Stmt} {k j : Nat} {f : Addr} {fd : FuncData} {ps ks : List Str} {bs : List Bool} {m : List PyData → Option PyData} {ga : Env → Γ.T → Option (List Rv × Γ.T)} {kws : List Keyword}
theorem pe_kP (D : Known X.prog X.w X.K X.mg X.base k x st f fd ps (spP Γ.K bs m)) (hg : X.A.guards = some []) (hr : Room j X.A) (hgl : Gl X x) (ha : PA X (a :: es) (denA Γ ga)) (hj : k ≤ j := by decide) (hdb : (x == ("__debug__" : Str)) = false := by decide)
    (he : starEach (a :: es) X.env = (false, eval a X.env) :: starEach es X.env := by rfl) (hpl : (backTo pos (starEach es X.env)).any (·.1) = false := by rfl) : PE X (.Call (.Name x p) (a :: es) [] pos) (den Γ (mCallP bs m ga)) :=
  pe_callP D.G hg (hr.mono hj) hgl D.m D.F.kp D.b ha hdb he hpl
theorem pe_kPK {is : List Nat} (D : Known X.prog X.w X.K X.mg X.base k x st f fd ps (spP Γ.K bs m)) (hg : X.A.guards = some []) (hr : Room j X.A) (hgl : Gl X x)
    (hb : ∀ (kV doc pm : Value) (an : Option Addr) (cdv ct : Value) (ws : List Value), (pick is ws).length = ps.length → bindArgs (PySem.W.fnOf x x (defArgs st) (defBody st) (defScope st) .none kV doc pm an cdv ct) ⟨[], ks.zip ws⟩ = pure (ps.zip (pick is ws)))
    (hkw : PK X kws (denA Γ ga)) (hj : k ≤ j := by decide) (hp : ps ≠ [] := by simp) (hall : (backToKw pos (keywordEach kws X.env)).all (·.1.isSome) = true := by rfl) (hks : (backToKw pos (keywordEach kws X.env)).filterMap (·.1) = ks := by rfl)
    (hdb : (x == ("__debug__" : Str)) = false := by decide) (hpl : ((backTo pos (starEach [] X.env)).any (·.1) || (backToKw pos (keywordEach kws X.env)).any (·.1.isNone)) = false := by rfl) :
    PE X (.Call (.Name x p) [] kws pos) (den Γ (mCallP bs m (mPick is ga))) :=
  pe_callPK0 D.G hg (hr.mono hj) hgl D.m D.F.kp (kb_of D.F is hp hb) hkw hall hks hdb hpl
end
section
variable {K : PySem.W.Frag} {fk : Str} {ta g : Addr} {F0 H0 : Hp} {X : Cx} {a : Expr} {es : List Expr} {pos p : Pos} {x : Str} {st : Stmt} {k j : Nat} {f : Addr} {fd : FuncData} {ps : List Str} {bs : List Bool} {m : Tr → List PyData → Option (PyData × Tr)} {ga : Env → Tr → Option (List Rv × Tr)}
theorem pe_kT (D : Known X.prog X.w X.K X.mg X.base k x st f fd ps (spT K fk bs m)) (hg : X.A.guards = some []) (hr : Room j X.A) (hgl : Gl X x) (ha : PA X (a :: es) (denA (Gt K fk ta g F0 H0) ga)) (hj : k ≤ j := by decide) (hdb : (x == ("__debug__" : Str)) = false := by decide)
    (he : starEach (a :: es) X.env = (false, eval a X.env) :: starEach es X.env := by rfl) (hpl : (backTo pos (starEach es X.env)).any (·.1) = false := by rfl) : PE X (.Call (.Name x p) (a :: es) [] pos) (den (Gt K fk ta g F0 H0) (mCallT bs m ga)) :=
  pe_callT D.G hg (hr.mono hj) hgl D.m D.F.kp D.b ha hdb he hpl
/-- tray = make(script) -/
theorem ps_make {i : Nat} {y sc : Str} {mt : List Int → Option PyData} {p2 p3 p4 : Pos} (D : Known X.prog X.w X.K X.mg X.base k x st f fd ps (spS X.K mt)) (hg : X.A.guards = some []) (hr : Room j X.A) (hgl : Gl X x) (h0 : PE X (.Name sc p3) (tVar 0)) (hN : X.N.Nodup) (hi : X.N[i]? = some y) (hx : Loc X.env.scope y)
    (hj : k ≤ j := by decide) (hdb : (x == ("__debug__" : Str)) = false := by decide) (he : starEach [.Name sc p3] X.env = (false, eval (.Name sc p3) X.env) :: starEach [] X.env := by rfl) (hpl : (backTo pos (starEach [] X.env)).any (·.1) = false := by rfl)
    (hs : swapsWith (.Call (.Name x p) [.Name sc p3] [] pos) (some (.Name y p2)) p4.line X.env = pure false := by rfl) (hf : X.fn y = true ∨ X.env.scope.names.lookup y = some .local := by first | exact .inl rfl | exact .inr rfl | assumption) :
    PS X (.Assign [.Name y p2] (.Call (.Name x p) [.Name sc p3] [] pos) p4) (tAsg (fun σ H Q => tVar 0 σ H fun v H1 => spS X.K mt [v] H1 Q E0) (gName i)) :=
  ps_w (ps_set hN hi hx (pe_callG (E := E0) D.G hg (hr.mono hj) hgl D.m D.F.kp D.b pass0 (pa_cons h0 pa_nil he) hdb he hpl) hs hf) fun D σ H h => h
end
theorem bt_len : bootBuiltins "len" = some (.builtin "len") := by kernel_rfl
theorem bt_abs : bootBuiltins "abs" = some (.builtin "abs") := by kernel_rfl
theorem bt_max : bootBuiltins "max" = some (.builtin "max") := by kernel_rfl
theorem bt_min : bootBuiltins "min" = some (.builtin "min") := by kernel_rfl
theorem bt_sum : bootBuiltins "sum" = some (.builtin "sum") := by kernel_rfl
theorem bt_repr : bootBuiltins "repr" = some (.builtin "repr") := by kernel_rfl
theorem bt_isinstance : bootBuiltins "isinstance" = some (.builtin "isinstance") := by kernel_rfl
theorem bt_sorted : bootBuiltins "sorted" = some (.builtin "sorted") := by kernel_rfl
theorem bt_all : bootBuiltins "all" = some (.builtin "all") := by kernel_rfl
theorem bt_any : bootBuiltins "any" = some (.builtin "any") := by kernel_rfl
theorem bt_range : bootBuiltins "range" = some (.type "range") := by kernel_rfl
theorem bt_enumerate : bootBuiltins "enumerate" = some (.type "enumerate") := by kernel_rfl
theorem bt_tuple : bootBuiltins "tuple" = some (.type "tuple") := by kernel_rfl
theorem bt_list : bootBuiltins "list" = some (.type "list") := by kernel_rfl
theorem bt_int : bootBuiltins "int" = some (.type "int") := by kernel_rfl
theorem bt_str : bootBuiltins "str" = some (.type "str") := by kernel_rfl
theorem bt_bool : bootBuiltins "bool" = some (.type "bool") := by kernel_rfl
theorem bt_dict : bootBuiltins "dict" = some (.type "dict") := by kernel_rfl
theorem bt_zip : bootBuiltins "zip" = some (.type "zip") := by kernel_rfl
theorem bt_reversed : bootBuiltins "reversed" = some (.type "reversed") := by kernel_rfl
theorem bt_set : bootBuiltins "set" = some (.type "set") := by kernel_rfl
end Mi
/-! Loops of mirrors. -/
namespace Mi
open PySem L2

theorem forL_ind {T : Type} {g : PyData → Env → Option Env} {body : MS T} (P : Nat → Env → T → Prop) : ∀ (ds : List PyData) (i : Nat) (ρ : Env) (t : T), P i ρ t →
    (∀ j d ρ t, ds[j]? = some d → P (i + j) ρ t → ∃ ρ1 ρ2 t2, g d ρ = some ρ1 ∧ body ρ1 t = some (.nx ρ2, t2) ∧ P (i + j + 1) ρ2 t2) → ∃ ρ' t', forL g body ds ρ t = some (.nx ρ', t') ∧ P (i + ds.length) ρ' t'
  | [], i, ρ, t, h, _ => ⟨ρ, t, rfl, h⟩
  | d :: ds, i, ρ, t, h, hs => by
    obtain ⟨ρ1, ρ2, t2, e1, e2, h2⟩ := hs 0 d ρ t rfl h
    obtain ⟨ρ', t', e3, h3⟩ := forL_ind P ds (i + 1) ρ2 t2 h2 fun j d' ρ t hj hp => by
      have q := hs (j + 1) d' ρ t hj (by rw [show i + (j + 1) = i + 1 + j from by omega]; exact hp)
      rw [show i + (j + 1) + 1 = i + 1 + j + 1 from by omega] at q
      exact q
    refine ⟨ρ', t', ?_, by rw [List.length_cons, show i + (ds.length + 1) = i + 1 + ds.length from by omega]; exact h3⟩
    show (match g d ρ with
      | none => none
      | some ρ1 => match body ρ1 t with
        | some (.nx ρ2, t2) => forL g body ds ρ2 t2
        | some (.ct ρ2, t2) => forL g body ds ρ2 t2
        | some (.bk ρ2, t2) => some (.nx ρ2, t2)
        | some (.rt x, t2) => some (.rt x, t2)
        | none => none) = _
    rw [e1]
    dsimp only
    rw [e2]
    exact e3
theorem mFor_ind {T : Type} {its : Env → T → Option (List PyData × T)} {g : PyData → Env → Option Env} {body : MS T} {ρ : Env} {t t1 : T} {ds : List PyData} (P : Nat → Env → T → Prop) (hi : its ρ t = some (ds, t1)) (h0 : P 0 ρ t1)
    (hs : ∀ j d ρ t, ds[j]? = some d → P j ρ t → ∃ ρ1 ρ2 t2, g d ρ = some ρ1 ∧ body ρ1 t = some (.nx ρ2, t2) ∧ P (j + 1) ρ2 t2) : ∃ ρ' t', mFor its g body ρ t = some (.nx ρ', t') ∧ P ds.length ρ' t' := by
  have q := forL_ind P ds 0 ρ t1 h0 (by simpa using hs)
  rw [Nat.zero_add] at q
  obtain ⟨ρ', t', e, h⟩ := q
  refine ⟨ρ', t', ?_, h⟩
  unfold mFor
  rw [hi]
  exact e
/-- a comprehension without a test -/
theorem lcL_ind {T : Type} {g : PyData → Env → Option Env} {f : ME T} {ρ : Env} (P : Nat → T → Prop) (R : Nat → PyData → Prop) : ∀ (ds : List PyData) (i : Nat) (acc : List PyData) (t : T), P i t → acc.length + ds.length ≤ sizeLine →
    (∀ j d t, ds[j]? = some d → P (i + j) t → ∃ ρ1 x t2, g d ρ = some ρ1 ∧ f ρ1 t = some (.fro x, t2) ∧ P (i + j + 1) t2 ∧ R (i + j) x) →
    ∃ out t', lcL g mYes f ρ ds acc t = some (acc ++ out, t') ∧ P (i + ds.length) t' ∧ out.length = ds.length ∧ ∀ j x, out[j]? = some x → R (i + j) x
  | [], i, acc, t, h, _, _ => ⟨[], t, by rw [List.append_nil]; rfl, h, rfl, fun j x e => by simp at e⟩
  | d :: ds, i, acc, t, h, hz, hs => by
    rw [List.length_cons] at hz
    obtain ⟨ρ1, x, t2, e1, e2, h2, r⟩ := hs 0 d t rfl h
    obtain ⟨out, t', e3, h3, hl, hr⟩ := lcL_ind P R ds (i + 1) (acc ++ [x]) t2 h2 (by rw [List.length_append, List.length_singleton]; omega) fun j d' t hj hp => by
      have q := hs (j + 1) d' t hj (by rw [show i + (j + 1) = i + 1 + j from by omega]; exact hp)
      rw [show i + (j + 1) + 1 = i + 1 + j + 1 from by omega, show i + (j + 1) = i + 1 + j from by omega] at q
      exact q
    refine ⟨x :: out, t', ?_, by rw [List.length_cons, show i + (ds.length + 1) = i + 1 + ds.length from by omega]; exact h3, by rw [List.length_cons, List.length_cons, hl], fun j y e => ?_⟩
    · unfold lcL
      rw [e1]
      dsimp only [mYes]
      rw [e2]
      dsimp only
      rw [if_pos (by omega), e3, List.append_assoc]
      rfl
    · cases j with
      | zero => cases e; exact r
      | succ j =>
        rw [show i + (j + 1) = i + 1 + j from by omega]
        exact hr j y e
/-- .. that computes a list -/
theorem lcL_map {T : Type} {g : PyData → Env → Option Env} {f : ME T} {ρ : Env} (h : PyData → PyData) {t : T} : ∀ (ds : List PyData) (acc : List PyData), acc.length + ds.length ≤ sizeLine →
    (∀ d ∈ ds, ∃ ρ1, g d ρ = some ρ1 ∧ f ρ1 t = some (.fro (h d), t)) → lcL g mYes f ρ ds acc t = some (acc ++ ds.map h, t)
  | [], acc, _, _ => by rw [List.map_nil, List.append_nil]; rfl
  | d :: ds, acc, hz, hs => by
    rw [List.length_cons] at hz
    obtain ⟨ρ1, e1, e2⟩ := hs d (List.mem_cons_self ..)
    have ih := lcL_map h ds (acc ++ [h d]) (by rw [List.length_append, List.length_singleton]; omega) fun d' m => hs d' (List.mem_cons_of_mem _ m)
    unfold lcL
    rw [e1]
    dsimp only [mYes]
    rw [e2]
    dsimp only
    rw [if_pos (by omega), ih, List.map_cons, List.append_assoc]
    rfl
theorem mLc_map {T : Type} {its : Env → T → Option (List PyData × T)} {g : PyData → Env → Option Env} {f : ME T} {vs : List Nat} {ρ : Env} {t t1 : T} {ds : List PyData} (h : PyData → PyData) (hi : its ρ t = some (ds, t1)) (hz : ds.length ≤ sizeLine)
    (hs : ∀ d ∈ ds, ∃ ρ1, g d (wipeR ρ vs) = some ρ1 ∧ f ρ1 t1 = some (.fro (h d), t1)) : mLc its g mYes f vs ρ t = some (.list (ds.map h), t1) := by
  unfold mLc
  rw [hi]
  dsimp only
  rw [lcL_map h ds [] (by rw [List.length_nil]; omega) hs]
  rfl
theorem mLc_ind {T : Type} {its : Env → T → Option (List PyData × T)} {g : PyData → Env → Option Env} {f : ME T} {vs : List Nat} {ρ : Env} {t t1 : T} {ds : List PyData} (P : Nat → T → Prop) (R : Nat → PyData → Prop) (hi : its ρ t = some (ds, t1)) (hz : ds.length ≤ sizeLine) (h0 : P 0 t1)
    (hs : ∀ j d t, ds[j]? = some d → P j t → ∃ ρ1 x t2, g d (wipeR ρ vs) = some ρ1 ∧ f ρ1 t = some (.fro x, t2) ∧ P (j + 1) t2 ∧ R j x) :
    ∃ out t', mLc its g mYes f vs ρ t = some (.list out, t') ∧ P ds.length t' ∧ out.length = ds.length ∧ ∀ j x, out[j]? = some x → R j x := by
  obtain ⟨out, t', e, h, hl, hr⟩ := lcL_ind P R ds 0 [] t1 h0 (by rw [List.length_nil]; omega) (by simpa using hs)
  refine ⟨out, t', ?_, by simpa using h, hl, by simpa using hr⟩
  unfold mLc
  rw [hi]
  dsimp only
  rw [e]
  rfl
theorem seq_nx {T : Type} {f g : MS T} {ρ ρ1 : Env} {t t1 : T} (h : f ρ t = some (.nx ρ1, t1)) : mSeq f g ρ t = g ρ1 t1 := by
  unfold mSeq
  rw [h]
theorem seq_rt {T : Type} {f g : MS T} {ρ : Env} {t t1 : T} {d : PyData} (h : f ρ t = some (.rt d, t1)) : mSeq f g ρ t = some (.rt d, t1) := by
  unfold mSeq
  rw [h]
theorem if_t {T : Type} {c : Env → T → Option (Bool × T)} {f g : MS T} {ρ : Env} {t t1 : T} (h : c ρ t = some (true, t1)) : mIfS c f g ρ t = f ρ t1 := by
  unfold mIfS
  rw [h]
  rfl
theorem if_f {T : Type} {c : Env → T → Option (Bool × T)} {f g : MS T} {ρ : Env} {t t1 : T} (h : c ρ t = some (false, t1)) : mIfS c f g ρ t = g ρ t1 := by
  unfold mIfS
  rw [h]
  rfl
/-- .. with a test -/
theorem lcL_filt {T : Type} {g : PyData → Env → Option Env} {c : Env → T → Option (Bool × T)} {f : ME T} {ρ : Env} (p : PyData → Bool) (h : PyData → PyData) {t : T} : ∀ (ds : List PyData) (acc : List PyData), acc.length + ds.length ≤ sizeLine →
    (∀ d ∈ ds, ∃ ρ1, g d ρ = some ρ1 ∧ c ρ1 t = some (p d, t) ∧ (p d = true → f ρ1 t = some (.fro (h d), t))) → lcL g c f ρ ds acc t = some (acc ++ (ds.filter p).map h, t)
  | [], acc, _, _ => by rw [List.filter_nil, List.map_nil, List.append_nil]; rfl
  | d :: ds, acc, hz, hs => by
    rw [List.length_cons] at hz
    obtain ⟨ρ1, e1, e2, e3⟩ := hs d (List.mem_cons_self ..)
    unfold lcL
    rw [e1]
    dsimp only
    rw [e2]
    cases hp : p d with
    | true =>
      have ih := lcL_filt p h ds (acc ++ [h d]) (by rw [List.length_append, List.length_singleton]; omega) fun d' m => hs d' (List.mem_cons_of_mem _ m)
      dsimp only
      rw [e3 hp]
      dsimp only
      rw [if_pos (by omega), ih, List.filter_cons_of_pos hp, List.map_cons, List.append_assoc]
      rfl
    | false =>
      have ih := lcL_filt p h ds acc (by omega) fun d' m => hs d' (List.mem_cons_of_mem _ m)
      dsimp only
      rw [ih, List.filter_cons_of_neg (by rw [hp]; decide)]
theorem mLc_filt {T : Type} {its : Env → T → Option (List PyData × T)} {g : PyData → Env → Option Env} {c : Env → T → Option (Bool × T)} {f : ME T} {vs : List Nat} {ρ : Env} {t t1 : T} {ds : List PyData} (p : PyData → Bool) (h : PyData → PyData) (hi : its ρ t = some (ds, t1)) (hz : ds.length ≤ sizeLine)
    (hs : ∀ d ∈ ds, ∃ ρ1, g d (wipeR ρ vs) = some ρ1 ∧ c ρ1 t1 = some (p d, t1) ∧ (p d = true → f ρ1 t1 = some (.fro (h d), t1))) : mLc its g c f vs ρ t = some (.list ((ds.filter p).map h), t1) := by
  unfold mLc
  rw [hi]
  dsimp only
  rw [lcL_filt p h ds [] (by rw [List.length_nil]; omega) hs]
  rfl
/-! ### evaluation, step by step -/
section
variable {T : Type} {f fa fb fc : ME T} {ρ : Env} {t t1 t2 t3 : T} {d x y z : PyData} {r r1 r2 : Rv} {rs : List Rv} {ga : Env → T → Option (List Rv × T)} {gL : Env → T → Option (PyData × T)}
theorem ev_bin {g : PyData → PyData → Option PyData} (h1 : fa ρ t = some (r1, t1)) (h2 : fb ρ t1 = some (r2, t2)) (h3 : rd ρ r1 = some x) (h4 : rd ρ r2 = some y) (h5 : g x y = some z) : mBin g fa fb ρ t = some (.fro z, t2) := by
  unfold mBin
  rw [h1]
  show (fb ρ t1 >>= _) = _
  rw [h2]
  show (rd ρ r1 >>= _) = _
  rw [h3]
  show (rd ρ r2 >>= _) = _
  rw [h4]
  show (g x y >>= _) = _
  rw [h5]
  rfl
theorem ev_test {b : Bool} (h : f ρ t = some (.fro (.bool b), t1)) : mTest f ρ t = some (b, t1) := by
  unfold mTest
  rw [h]
theorem ev_keep (h : gL ρ t = some (d, t1)) : mKeep gL ρ t = some (.fro d, t1) := by
  unfold mKeep
  rw [h]
theorem ev_nil : (mNil : Env → T → Option (List Rv × T)) ρ t = some ([], t) := rfl
theorem ev_cons (h1 : f ρ t = some (r, t1)) (h2 : ga ρ t1 = some (rs, t2)) : mCons f ga ρ t = some (r :: rs, t2) := by
  unfold mCons
  rw [h1]
  show (ga ρ t1 >>= _) = _
  rw [h2]
  rfl
theorem ev_tup {ds : List PyData} (h1 : ga ρ t = some (rs, t1)) (h2 : kept rs = some ds) (h3 : ds.length ≤ sizeLine) : mTup ga ρ t = some (.fro (.tuple ds), t1) := by
  unfold mTup
  rw [h1]
  show (kept rs >>= _) = _
  rw [h2]
  exact if_pos h3
theorem ev_lst {ds : List PyData} (h1 : ga ρ t = some (rs, t1)) (h2 : kept rs = some ds) (h3 : ds.length ≤ sizeLine) : mLst ga ρ t = some (.list ds, t1) := by
  unfold mLst
  rw [h1]
  show (kept rs >>= _) = _
  rw [h2]
  exact if_pos h3
theorem ev_dict {ks : List Key} {ds : List PyData} (h1 : ga ρ t = some (rs, t1)) (h2 : kept rs = some ds) (h3 : ds.length = ks.length ∧ ks.Nodup ∧ ks.length ≤ 15) : mDict ks ga ρ t = some (.dict (mapD ks ds), t1) := by
  unfold mDict
  rw [h1]
  show (kept rs >>= _) = _
  rw [h2]
  exact if_pos h3
theorem ev_call {g : List PyData → Option PyData} {xs : List PyData} (h1 : ga ρ t = some (rs, t1)) (h2 : rds ρ rs = some xs) (h3 : g xs = some z) : mCall g ga ρ t = some (.fro z, t1) := by
  unfold mCall
  rw [h1]
  show (rds ρ rs >>= _) = _
  rw [h2]
  show (g xs >>= _) = _
  rw [h3]
  rfl
theorem ev_callP {bs : List Bool} {m : List PyData → Option PyData} {xs : List PyData} (h1 : ga ρ t = some (rs, t1)) (h2 : args ρ bs rs = some xs) (h3 : m xs = some z) : mCallP bs m ga ρ t = some (.fro z, t1) := by
  unfold mCallP
  rw [h1]
  show (args ρ bs rs >>= _) = _
  rw [h2]
  show (m xs >>= _) = _
  rw [h3]
  rfl
theorem ev_ret (h : f ρ t = some (.fro d, t1)) : mRet f ρ t = some (.rt d, t1) := by
  unfold mRet
  rw [h]
theorem ev_retO {j : Nat} (h : f ρ t = some (.loan j, t1)) (h2 : ρ[j]? = some (some (.own d))) : mRet f ρ t = some (.rt d, t1) := by
  unfold mRet
  rw [h]
  dsimp only
  rw [h2]
theorem ev_set {i : Nat} {g : Env → T → Option (Val × T)} {w : Val} (h : g ρ t = some (w, t1)) : mSet i g ρ t = some (.nx (ρ.set i (some w)), t1) := by
  unfold mSet
  rw [h]
theorem ev_rv (h : f ρ t = some (.fro d, t1)) : mRv f ρ t = some (.fro d, t1) := by
  unfold mRv
  rw [h]
theorem ev_new (h : gL ρ t = some (d, t1)) : mNew gL ρ t = some (.own d, t1) := by
  unfold mNew
  rw [h]
theorem ev_consV {g : Env → T → Option (Val × T)} {gs : Env → T → Option (List Val × T)} {w : Val} {ws : List Val} (h1 : g ρ t = some (w, t1)) (h2 : gs ρ t1 = some (ws, t2)) : mConsV g gs ρ t = some (w :: ws, t2) := by
  unfold mConsV
  rw [h1]
  show (gs ρ t1 >>= _) = _
  rw [h2]
  rfl
theorem ev_par {i j : Nat} {gs : Env → T → Option (List Val × T)} {w1 w2 : Val} (h : gs ρ t = some ([w1, w2], t1)) : mPar i j gs ρ t = some (.nx ((ρ.set i (some w1)).set j (some w2)), t1) := by
  unfold mPar
  rw [h]
theorem ev_asg {g : PyData → Env → Option Env} {ρ1 : Env} (h : f ρ t = some (.fro d, t1)) (h2 : g d ρ = some ρ1) : mAsg f g ρ t = some (.nx ρ1, t1) := by
  unfold mAsg
  rw [h]
  dsimp only
  rw [h2]
theorem ev_app {i : Nat} {ds : List PyData} (h : f ρ t = some (.fro d, t1)) (h2 : ρ[i]? = some (some (.own (.list ds)))) (h3 : ds.length < sizeLine) : mApp i f ρ t = some (.nx (ρ.set i (some (.own (.list (ds ++ [d]))))), t1) := by
  unfold mApp
  rw [h]
  dsimp only
  rw [h2]
  dsimp only
  rw [if_pos h3]
theorem ev_aug {i : Nat} {g : PyData → PyData → Option PyData} (h0 : cur ρ i = some x) (h : f ρ t = some (r, t1)) (h2 : rd ρ r = some y) (h3 : g x y = some z) : mAug i g f ρ t = some (.nx (ρ.set i (some (.fro z))), t1) := by
  unfold mAug
  rw [h0]
  show (f ρ t >>= _) = _
  rw [h]
  show (rd ρ r >>= _) = _
  rw [h2]
  show (g x y >>= _) = _
  rw [h3]
  rfl
theorem ev_range1 {j : Int} (h : ga ρ t = some ([.fro (.int j)], t1)) (h2 : -(2 ^ 62) ≤ j ∧ j < 2 ^ 62) : mRange1 ga ρ t = some ((List.range j.toNat).map fun (k : Nat) => PyData.int (k : Int), t1) := by
  unfold mRange1
  rw [h]
  exact if_pos h2
theorem ev_items {ds : List PyData} (h : f ρ t = some (.fro d, t1)) (h2 : itemsOf d = some ds) : mItems f ρ t = some (ds, t1) := by
  unfold mItems
  rw [h]
  dsimp only
  rw [h2]
theorem ev_enum {ds : List PyData} (h : mItems f ρ t = some (ds, t1)) : mEnum f ρ t = some (withIx ds, t1) := by
  unfold mEnum
  rw [h]
theorem ev_if {c : Env → T → Option (Bool × T)} {b : Bool} (h : c ρ t = some (b, t1)) : mIf c fa fb ρ t = if b then fa ρ t1 else fb ρ t1 := by
  unfold mIf
  rw [h]
  rfl
theorem ev_and {c c' : Env → T → Option (Bool × T)} {b : Bool} (h : c ρ t = some (b, t1)) : mAnd c c' ρ t = if b then c' ρ t1 else some (false, t1) := by
  unfold mAnd
  rw [h]
  rfl
theorem ev_or {c c' : Env → T → Option (Bool × T)} {b : Bool} (h : c ρ t = some (b, t1)) : mOr c c' ρ t = if b then some (true, t1) else c' ρ t1 := by
  unfold mOr
  rw [h]
  rfl
theorem ev_andT {c c' : Env → T → Option (Bool × T)} {o : Option (Bool × T)} (h : c ρ t = some (true, t1)) (h2 : c' ρ t1 = o) : mAnd c c' ρ t = o := (ev_and h).trans h2
theorem ev_andF {c c' : Env → T → Option (Bool × T)} (h : c ρ t = some (false, t1)) : mAnd c c' ρ t = some (false, t1) := ev_and h
theorem ev_orT {c c' : Env → T → Option (Bool × T)} (h : c ρ t = some (true, t1)) : mOr c c' ρ t = some (true, t1) := ev_or h
theorem ev_orF {c c' : Env → T → Option (Bool × T)} {o : Option (Bool × T)} (h : c ρ t = some (false, t1)) (h2 : c' ρ t1 = o) : mOr c c' ρ t = o := (ev_or h).trans h2
theorem ev_ifT {c : Env → T → Option (Bool × T)} {o : Option (Rv × T)} (h : c ρ t = some (true, t1)) (h2 : fa ρ t1 = o) : mIf c fa fb ρ t = o := (ev_if h).trans h2
theorem ev_ifF {c : Env → T → Option (Bool × T)} {o : Option (Rv × T)} (h : c ρ t = some (false, t1)) (h2 : fb ρ t1 = o) : mIf c fa fb ρ t = o := (ev_if h).trans h2
theorem ev_not {c : Env → T → Option (Bool × T)} {b : Bool} (h : c ρ t = some (b, t1)) : mNot c ρ t = some (!b, t1) := by
  unfold mNot
  rw [h]
  rfl
theorem ev_sl {l h' : Env → T → Option (Option Int × T)} {lo hi : Option Int} (h1 : f ρ t = some (r, t1)) (h2 : l ρ t1 = some (lo, t2)) (h3 : h' ρ t2 = some (hi, t3)) (h4 : rd ρ r = some x) (h5 : sliceD x lo hi = some z) : mSl f l h' ρ t = some (.fro z, t3) := by
  unfold mSl
  rw [h1]
  show (l ρ t1 >>= _) = _
  rw [h2]
  show (h' ρ t2 >>= _) = _
  rw [h3]
  show (rd ρ r >>= _) = _
  rw [h4]
  show (sliceD x lo hi >>= _) = _
  rw [h5]
  rfl
theorem ev_part {i : Int} (h : f ρ t = some (.fro (.int i), t1)) : mPart f ρ t = some (some i, t1) := by
  unfold mPart
  rw [h]
theorem ev_lc {its : Env → T → Option (List PyData × T)} {g : PyData → Env → Option Env} {c : Env → T → Option (Bool × T)} {vs : List Nat} {items ds : List PyData} (h : its ρ t = some (items, t1)) (h2 : lcL g c f (wipeR ρ vs) items [] t1 = some (ds, t2)) : mLc its g c f vs ρ t = some (.list ds, t2) := by
  unfold mLc
  rw [h]
  dsimp only
  rw [h2]
end
theorem ev_callT {bs : List Bool} {m : Tr → List PyData → Option (PyData × Tr)} {ga : Env → Tr → Option (List Rv × Tr)} {ρ : Env} {t t1 t2 : Tr} {rs : List Rv} {xs : List PyData} {z : PyData} (h1 : ga ρ t = some (.tray 0 :: rs, t1)) (h2 : args ρ bs rs = some xs) (h3 : m t1 xs = some (z, t2)) : mCallT bs m ga ρ t = some (.fro z, t2) := by
  unfold mCallT
  rw [h1]
  show (args ρ bs rs >>= _) = _
  rw [h2]
  show (m t1 xs >>= _) = _
  rw [h3]
  rfl
theorem mod_ok {i j : Int} (h : 0 < j) : modD (.int i) (.int j) = some (.int (i % j)) := if_pos h
theorem mFun_rt {n : Nat} {bs : List Bool} {body : MS Unit} {ds : List PyData} {d : PyData} {t : Unit} (h : body (entry n bs ds) () = some (.rt d, t)) : mFun n bs body ds = some d := by
  unfold mFun
  rw [h]
theorem mFunT_rt {n : Nat} {bs : List Bool} {body : MS Tr} {ds : List PyData} {d : PyData} {t t' : Tr} (h : body (entryT n bs ds) t = some (.rt d, t')) : mFunT n bs body t ds = some (d, t') := by
  unfold mFunT
  rw [h]
end Mi
/-! pop of one's own list; items of one's own lists and dicts set. -/
namespace Mi
open PySem L2

/-- an expression that takes from one's own list in slot j -/
def denP (Γ : Gm) (j : Nat) (f : Env → Γ.T → Option (PyData × List PyData × Γ.T)) : TE := fun σ H Q => ∃ F ρ t d ds t', Rep Γ F H σ ρ t ∧ f ρ t = some (d, ds, t') ∧
  ∀ v F' H', Rep Γ F' H' σ (ρ.set j (some (.own (.list ds)))) t' → Same F F' → Dq Γ.K F' v d → Q v H'
def mPopAt {T : Type} (j : Nat) (fk : ME T) : Env → T → Option (PyData × List PyData × T) := fun ρ t => match fk ρ t with
  | some (.fro (.int k), t') => match ρ[j]? with
    | some (some (.own (.list ds))) => match seqIndex? k ds.length with
      | some n => match ds[n]? with
        | some d => if -(2 ^ 63) ≤ k ∧ k < 2 ^ 63 then some (d, ds.eraseIdx n, t') else none
        | none => none
      | none => none
    | _ => none
  | _ => none
def mPopEnd {T : Type} (j : Nat) : Env → T → Option (PyData × List PyData × T) := fun ρ t => match ρ[j]? with
  | some (some (.own (.list ds))) => match ds[ds.length - 1]? with
    | some d => some (d, ds.dropLast, t)
    | none => none
  | _ => none
section
variable {Γ : Gm} {X : Cx} {a o : Expr} {fa : ME Γ.T} {pos apos cpos p2 : Pos} {i j : Nat}
theorem pe_popAtD (ho : PE X o (tVar j)) (ha : PE X a (den Γ fa)) (hs1 : starEach [a] X.env = (false, eval a X.env) :: starEach [] X.env := by rfl) (hbase : attributeBase o "pop" X.env (eval o X.env) = eval o X.env := by rfl)
    (hfew : ((backTo cpos (starEach [a] X.env)).all (fun x => !x.1) && (backToKw cpos (keywordEach [] X.env)).all (fun x => x.1.isSome) && decide ([a].length + ([] : List Keyword).length + (if ([] : List Keyword).isEmpty then 0 else 1) < 30)) = true := by rfl)
    (hline : (apos.endLine == cpos.line) = true := by rfl) (hplain : (backTo cpos (starEach [] X.env)).any (·.1) = false := by rfl) : PE X (.Call (.Attribute o "pop" apos) [a] [] cpos) (denP Γ j (mPopAt j fa)) :=
  pe_w (pe_bm PySem.F.plainAttrs_list PySem.F.slot_list_pop PySem.F.type_list_pop mt_popAt ho (pa_cons ha pa_nil hs1) hbase hfew hline hs1 hplain) fun σ H Q => by
    rintro ⟨F, ρ, t, d, ds', t', R, e, q⟩
    unfold mPopAt at e
    split at e
    · rename_i k t1 e1
      split at e
      · rename_i ds e2
        split at e
        · rename_i n e3
          split at e
          · rename_i d0 e4
            split at e
            · rename_i hz
              cases e
              obtain ⟨l, h1, ⟨h2, ws, h3, h4⟩, old, nS⟩ := R.slots j _ e2
              refine ⟨_, h1, .inl ⟨rfl, ws, .of h3⟩, F, ρ, t, _, _, R, e1, fun v F1 H1 R1 x1 k1 => ?_⟩
              obtain ⟨l', g1, ⟨g2, ws', g3, g4⟩, _, _⟩ := R1.slots j _ e2
              rw [h1] at g1
              cases g1
              cases (show Dq Γ.K F1 v (.int k) from k1)
              obtain ⟨y, hy, ky⟩ := g4.get e4
              refine ⟨l, ws', k, n, y, rfl, rfl, g3, hz.1, hz.2, by rw [g4.length]; exact e3, hy, ?_⟩
              exact q y F1 _ (R1.turn e2 h1 ⟨g2, _, upd_same, g4.eraseIdx n⟩) x1.f ky
            · cases e
          · cases e
        · cases e
      · cases e
    · cases e
theorem DqA.dropLast {K : PySem.W.Frag} {F : Hp} {vs : List V} {ds : List PyData} (h : DqA K F vs ds) : DqA K F vs.dropLast ds.dropLast := by
  rw [List.dropLast_eq_take, List.dropLast_eq_take, h.length]
  exact h.take _
theorem pe_popEndD (ho : PE X o (tVar j)) (hbase : attributeBase o "pop" X.env (eval o X.env) = eval o X.env := by rfl) (hline : (apos.endLine == cpos.line) = true := by rfl) : PE X (.Call (.Attribute o "pop" apos) [] [] cpos) (denP Γ j (mPopEnd j)) :=
  pe_w (pe_bm0 PySem.F.plainAttrs_list PySem.F.slot_list_pop PySem.F.type_list_pop mt_pop ho hbase hline) fun σ H Q => by
    rintro ⟨F, ρ, t, d, ds', t', R, e, q⟩
    unfold mPopEnd at e
    split at e
    · rename_i ds e2
      split at e
      · rename_i d0 e4
        cases e
        obtain ⟨l, h1, ⟨h2, ws, h3, h4⟩, old, nS⟩ := R.slots j _ e2
        obtain ⟨y, hy, ky⟩ := h4.get e4
        refine ⟨_, h1, .inl ⟨rfl, ws, .of h3⟩, l, ws, y, rfl, rfl, h3, by rw [h4.length]; exact hy, ?_⟩
        exact q y F _ (R.turn e2 h1 ⟨h2, _, upd_same, h4.dropLast⟩) (Same.refl F) ky
      · cases e
    · cases e
variable {f : Env → Γ.T → Option (PyData × List PyData × Γ.T)}
/-- x = ys.pop(..) -/
def mSetP {T : Type} (i j : Nat) (f : Env → T → Option (PyData × List PyData × T)) : MS T := fun ρ t => match f ρ t with
  | some (d, ds, t') => some (.nx ((ρ.set j (some (.own (.list ds)))).set i (some (.fro d))), t')
  | none => none
theorem ps_setP {x : Str} (hN : X.N.Nodup) (hi : X.N[i]? = some x) (hx : Loc X.env.scope x) (he : PE X a (denP Γ j f)) (hs : swapsWith a (some (.Name x p2)) pos.line X.env = pure false := by rfl)
    (hf : X.fn x = true ∨ X.env.scope.names.lookup x = some .local := by first | exact .inl rfl | exact .inr rfl | assumption) : PS X (.Assign [.Name x p2] a pos) (denS Γ (mSetP i j f)) := ps_w (ps_set hN hi hx he hs hf) fun D σ H => by
  rintro ⟨F, ρ, t, r, t', R, e, q⟩
  unfold mSetP at e
  split at e
  · rename_i d ds t1 e1
    cases e
    exact ⟨F, ρ, t, _, _, _, R, e1, fun v F1 H1 R1 s1 k1 => q _ F1 H1 (R1.setF k1) s1⟩
  · cases e
/-- ys.pop(..) alone -/
def mDropP {T : Type} (j : Nat) (f : Env → T → Option (PyData × List PyData × T)) : MS T := fun ρ t => match f ρ t with
  | some (_, ds, t') => some (.nx (ρ.set j (some (.own (.list ds)))), t')
  | none => none
theorem ps_dropP (he : PE X a (denP Γ j f)) (hs : swapsWith a none pos.line X.env = pure false := by rfl) : PS X (.Expr a pos) (denS Γ (mDropP j f)) := ps_w (ps_expr he hs) fun D σ H => by
  rintro ⟨F, ρ, t, r, t', R, e, q⟩
  unfold mDropP at e
  split at e
  · rename_i d ds t1 e1
    cases e
    exact ⟨F, ρ, t, _, _, _, R, e1, fun v F1 H1 R1 s1 k1 => q _ F1 H1 R1 s1⟩
  · cases e
/-- xs.append(ys.pop(..)) -/
def mAppP {T : Type} (i j : Nat) (f : Env → T → Option (PyData × List PyData × T)) : MS T := fun ρ t => match f ρ t with
  | some (d, ds, t') => match ρ[i]? with
    | some (some (.own (.list es))) => if i ≠ j ∧ es.length < sizeLine then some (.nx ((ρ.set j (some (.own (.list ds)))).set i (some (.own (.list (es ++ [d]))))), t') else none
    | _ => none
  | none => none
theorem ps_appP (ho : PE X o (tVar i)) (ha : PE X a (denP Γ j f)) (hs1 : starEach [a] X.env = (false, eval a X.env) :: starEach [] X.env := by rfl) (hbase : attributeBase o "append" X.env (eval o X.env) = eval o X.env := by rfl)
    (hfew : ((backTo cpos (starEach [a] X.env)).all (fun x => !x.1) && (backToKw cpos (keywordEach [] X.env)).all (fun x => x.1.isSome) && decide ([a].length + ([] : List Keyword).length + (if ([] : List Keyword).isEmpty then 0 else 1) < 30)) = true := by rfl)
    (hline : (apos.endLine == cpos.line) = true := by rfl) (hplain : (backTo cpos (starEach [] X.env)).any (·.1) = false := by rfl)
    (hs : swapsWith (.Call (.Attribute o "append" apos) [a] [] cpos) none pos.line X.env = pure false := by rfl) : PS X (.Expr (.Call (.Attribute o "append" apos) [a] [] cpos) pos) (denS Γ (mAppP i j f)) := by
  refine ps_w (ps_expr (pe_bm PySem.F.plainAttrs_list PySem.F.slot_list_append PySem.F.type_list_append mt_append ho (pa_cons ha pa_nil hs1) hbase hfew hline hs1 hplain) hs) fun D σ H => ?_
  rintro ⟨F, ρ, t, r, t', R, e, q⟩
  unfold mAppP at e
  split at e
  · rename_i d ds t1 e1
    split at e
    · rename_i es e2
      split at e
      · rename_i hz
        cases e
        obtain ⟨p1, h1, ⟨h2, ws, h3, h4⟩, old, nS⟩ := R.slots i _ e2
        refine ⟨_, h1, .inl ⟨rfl, ws, .of h3⟩, F, ρ, t, _, _, _, R, e1, fun v F1 H1 R1 s1 k1 => ?_⟩
        have e3 : (ρ.set j (some (.own (.list ds))))[i]? = some (some (.own (.list es))) := by rw [List.getElem?_set_ne hz.1.symm]; exact e2
        obtain ⟨p2, g1, ⟨g2, ws2, g3, g4⟩, _, _⟩ := R1.slots i _ e3
        rw [h1] at g1
        cases g1
        refine ⟨p1, ws2, v, rfl, rfl, g3, by rw [g4.length]; exact hz.2, ?_⟩
        exact q σ F1 _ (R1.turn e3 h1 ⟨g2, _, upd_same, g4.snoc k1⟩) s1
      · cases e
    · cases e
  · cases e
end
end Mi
/-! What must hold for a mirror to end with something: rules, one for each form. -/
namespace Mi
open PySem L2

/-- the value, read as data -/
def Ed {T : Type} (f : ME T) (ρ : Env) (t : T) (Q : PyData → T → Prop) : Prop := ∃ r t' d, f ρ t = some (r, t') ∧ rd ρ r = some d ∧ Q d t'
/-- the value is kept data -/
def Ef {T : Type} (f : ME T) (ρ : Env) (t : T) (Q : PyData → T → Prop) : Prop := ∃ d t', f ρ t = some (.fro d, t') ∧ Q d t'
def Eg {T R : Type} (f : Env → T → Option (R × T)) (ρ : Env) (t : T) (Q : R → T → Prop) : Prop := ∃ r t', f ρ t = some (r, t') ∧ Q r t'
/-- arguments as a callee takes them -/
def Ea {T : Type} (fs : Env → T → Option (List Rv × T)) (ρ : Env) (t : T) (bs : List Bool) (Q : List PyData → T → Prop) : Prop := ∃ rs t' ds, fs ρ t = some (rs, t') ∧ args ρ bs rs = some ds ∧ Q ds t'
/-- arguments, read -/
def Er {T : Type} (fs : Env → T → Option (List Rv × T)) (ρ : Env) (t : T) (Q : List PyData → T → Prop) : Prop := ∃ rs t' ds, fs ρ t = some (rs, t') ∧ rds ρ rs = some ds ∧ Q ds t'
/-- arguments, kept -/
def Ek {T : Type} (fs : Env → T → Option (List Rv × T)) (ρ : Env) (t : T) (Q : List PyData → T → Prop) : Prop := ∃ rs t' ds, fs ρ t = some (rs, t') ∧ kept rs = some ds ∧ Q ds t'
/-- statements: what holds where it goes on, returns, breaks, continues -/
def Es {T : Type} (m : MS T) (ρ : Env) (t : T) (N : Env → T → Prop) (R : PyData → T → Prop) (B C : Env → T → Prop) : Prop := ∃ r t', m ρ t = some (r, t') ∧ match r with
  | .nx ρ' => N ρ' t'
  | .rt d => R d t'
  | .bk ρ' => B ρ' t'
  | .ct ρ' => C ρ' t'
def dat (ρ : Env) (i : Nat) : Option PyData := match ρ[i]? with
  | some (some (.fro d)) => some d
  | some (some (.own d)) => some d
  | some (some (.bor d)) => some d
  | _ => none
def No {T : Type} : Env → T → Prop := fun _ _ => False
section
variable {T : Type} {ρ ρ' : Env} {t t1 : T} {Q : PyData → T → Prop} {f fa fb fc : ME T} {d : PyData} {i : Nat} {gL : Env → T → Option (PyData × T)} {fs : Env → T → Option (List Rv × T)} {QL : List PyData → T → Prop} {QB : Bool → T → Prop} {c c' : Env → T → Option (Bool × T)}
theorem Ef.mono {Q' : PyData → T → Prop} (h : Ef f ρ t Q) (m : ∀ d t', Q d t' → Q' d t') : Ef f ρ t Q' := by
  obtain ⟨d, t', e, q⟩ := h; exact ⟨d, t', e, m _ _ q⟩
theorem Eg.mono {R : Type} {g : Env → T → Option (R × T)} {Q Q' : R → T → Prop} (h : Eg g ρ t Q) (m : ∀ d t', Q d t' → Q' d t') : Eg g ρ t Q' := by
  obtain ⟨d, t', e, q⟩ := h; exact ⟨d, t', e, m _ _ q⟩
theorem eg_eq {R : Type} {g : Env → T → Option (R × T)} {Q : R → T → Prop} {r : R} (e : g ρ t = some (r, t1)) (q : Q r t1) : Eg g ρ t Q := ⟨_, _, e, q⟩
theorem f_eq (e : f ρ t = some (.fro d, t1)) (q : Q d t1) : Ef f ρ t Q := ⟨_, _, e, q⟩
theorem Ef.out (h : Ef f ρ t fun x t' => x = d ∧ t' = t1) : f ρ t = some (.fro d, t1) := by
  obtain ⟨d, t', e, rfl, rfl⟩ := h; exact e
theorem Eg.out {R : Type} {g : Env → T → Option (R × T)} {r : R} (h : Eg g ρ t fun x t' => x = r ∧ t' = t1) : g ρ t = some (r, t1) := by
  obtain ⟨d, t', e, rfl, rfl⟩ := h; exact e
theorem d_f (h : Ef f ρ t Q) : Ed f ρ t Q := by
  obtain ⟨d, t', e, q⟩ := h; exact ⟨_, _, d, e, rfl, q⟩
theorem d_v (h : dat ρ i = some d) (q : Q d t) : Ed (mV i) ρ t Q := by
  unfold dat at h
  split at h
  · rename_i x e; cases h; exact ⟨.fro d, t, d, by unfold mV; rw [e], rfl, q⟩
  · rename_i x e; cases h; exact ⟨.loan i, t, d, by unfold mV; rw [e], by unfold rd; dsimp only; rw [e], q⟩
  · rename_i x e
    cases h
    cases hf : flat d with
    | true => exact ⟨.fro d, t, d, by unfold mV; rw [e]; dsimp only; rw [hf]; rfl, rfl, q⟩
    | false => exact ⟨.loan i, t, d, by unfold mV; rw [e]; dsimp only; rw [hf]; rfl, by unfold rd; dsimp only; rw [e], q⟩
  · cases h
theorem f_v (h : cur ρ i = some d) (q : Q d t) : Ef (mV i) ρ t Q := by
  unfold cur at h
  split at h
  · rename_i x e; cases h; exact ⟨d, t, by unfold mV; rw [e], q⟩
  · rename_i x e
    split at h
    · rename_i hf; cases h; exact ⟨d, t, by unfold mV; rw [e]; dsimp only; rw [hf]; rfl, q⟩
    · cases h
  · cases h
theorem f_c (q : Q d t) : Ef (mC d) ρ t Q := ⟨d, t, rfl, q⟩
theorem f_bin {g : PyData → PyData → Option PyData} (h : Ed fa ρ t fun x t1 => Ed fb ρ t1 fun y t2 => ∃ z, g x y = some z ∧ Q z t2) : Ef (mBin g fa fb) ρ t Q := by
  obtain ⟨r1, t1, x, e1, ex, r2, t2, y, e2, ey, z, ez, q⟩ := h
  exact ⟨z, t2, ev_bin e1 e2 ex ey ez, q⟩
theorem f_un {g : PyData → Option PyData} (h : Ed fa ρ t fun x t1 => ∃ z, g x = some z ∧ Q z t1) : Ef (mUn g fa) ρ t Q := by
  obtain ⟨r1, t1, x, e1, ex, z, ez, q⟩ := h
  refine ⟨z, t1, ?_, q⟩
  unfold mUn
  rw [e1]
  show (rd ρ r1 >>= _) = _
  rw [ex]
  show (g x >>= _) = _
  rw [ez]
  rfl
theorem f_chain {g1 g2 : PyData → PyData → Option PyData} (h : Ed fa ρ t fun x t1 => Ed fb ρ t1 fun y t2 => ∃ b, g1 x y = some (.bool b) ∧ if b = true then Ed fc ρ t2 fun w t3 => ∃ z, g2 y w = some z ∧ Q z t3 else Q (.bool false) t2) : Ef (mChain g1 g2 fa fb fc) ρ t Q := by
  obtain ⟨r1, t1, x, e1, ex, r2, t2, y, e2, ey, b, eb, q⟩ := h
  cases b with
  | true =>
    rw [if_pos rfl] at q
    obtain ⟨r3, t3, w, e3, ew, z, ez, q⟩ := q
    refine ⟨z, t3, ?_, q⟩
    unfold mChain
    rw [e1]
    show (fb ρ t1 >>= _) = _
    rw [e2]
    show (rd ρ r1 >>= _) = _
    rw [ex]
    show (rd ρ r2 >>= _) = _
    rw [ey]
    show (match g1 x y with | some (.bool true) => _ | some (.bool false) => _ | _ => _) = _
    rw [eb]
    show (fc ρ t2 >>= _) = _
    rw [e3]
    show (rd ρ r3 >>= _) = _
    rw [ew]
    show (g2 y w >>= _) = _
    rw [ez]
    rfl
  | false =>
    rw [if_neg (by decide)] at q
    refine ⟨_, t2, ?_, q⟩
    unfold mChain
    rw [e1]
    show (fb ρ t1 >>= _) = _
    rw [e2]
    show (rd ρ r1 >>= _) = _
    rw [ex]
    show (rd ρ r2 >>= _) = _
    rw [ey]
    show (match g1 x y with | some (.bool true) => _ | some (.bool false) => _ | _ => _) = _
    rw [eb]
theorem r_nil (q : QL [] t) : Er (mNil : Env → T → Option (List Rv × T)) ρ t QL := ⟨[], t, [], rfl, rfl, q⟩
theorem r_cons (h : Ed f ρ t fun d t1 => Er fs ρ t1 fun ds t2 => QL (d :: ds) t2) : Er (mCons f fs) ρ t QL := by
  obtain ⟨r, t1, d, e, ed, rs, t2, ds, es, eds, q⟩ := h
  refine ⟨r :: rs, t2, d :: ds, ev_cons e es, ?_, q⟩
  unfold rds
  rw [ed, eds]
  rfl
theorem a_nil (q : QL [] t) : Ea (mNil : Env → T → Option (List Rv × T)) ρ t [] QL := ⟨[], t, [], rfl, rfl, q⟩
theorem a_consT {bs : List Bool} (h : Ed f ρ t fun d t1 => Ea fs ρ t1 bs fun ds t2 => QL (d :: ds) t2) : Ea (mCons f fs) ρ t (true :: bs) QL := by
  obtain ⟨r, t1, d, e, ed, rs, t2, ds, es, eds, q⟩ := h
  refine ⟨r :: rs, t2, d :: ds, ev_cons e es, ?_, q⟩
  unfold args
  rw [show argOf ρ true r = some d from ed, eds]
  rfl
theorem a_consF {bs : List Bool} (h : Ef f ρ t fun d t1 => Ea fs ρ t1 bs fun ds t2 => QL (d :: ds) t2) : Ea (mCons f fs) ρ t (false :: bs) QL := by
  obtain ⟨d, t1, e, rs, t2, ds, es, eds, q⟩ := h
  refine ⟨.fro d :: rs, t2, d :: ds, ev_cons e es, ?_, q⟩
  unfold args
  rw [show argOf ρ false (.fro d) = some d from rfl, eds]
  rfl
theorem k_nil (q : QL [] t) : Ek (mNil : Env → T → Option (List Rv × T)) ρ t QL := ⟨[], t, [], rfl, rfl, q⟩
theorem k_cons (h : Ef f ρ t fun d t1 => Ek fs ρ t1 fun ds t2 => QL (d :: ds) t2) : Ek (mCons f fs) ρ t QL := by
  obtain ⟨d, t1, e, rs, t2, ds, es, eds, q⟩ := h
  refine ⟨.fro d :: rs, t2, d :: ds, ev_cons e es, ?_, q⟩
  unfold kept
  rw [eds]
  rfl
theorem f_call {g : List PyData → Option PyData} (h : Er fs ρ t fun xs t1 => ∃ z, g xs = some z ∧ Q z t1) : Ef (mCall g fs) ρ t Q := by
  obtain ⟨rs, t1, xs, e, ex, z, ez, q⟩ := h
  exact ⟨z, t1, ev_call e ex ez, q⟩
theorem f_callP {bs : List Bool} {m : List PyData → Option PyData} (h : Ea fs ρ t bs fun xs t1 => ∃ z, m xs = some z ∧ Q z t1) : Ef (mCallP bs m fs) ρ t Q := by
  obtain ⟨rs, t1, xs, e, ex, z, ez, q⟩ := h
  exact ⟨z, t1, ev_callP e ex ez, q⟩
/-- by names: the arguments, kept or read, are first those of the order in which they stand -/
theorem pick_args {bs : List Bool} {is : List Nat} : ∀ {rs : List Rv} {ds : List PyData}, rds ρ rs = some ds → (∀ b ∈ bs, b = true) → bs.length = is.length → (∀ i ∈ is, i < rs.length) → args ρ bs (pick is rs) = some (pick is ds) := by
  induction is generalizing bs with
  | nil =>
    intro rs ds e hb hl hi
    cases bs with
    | nil => rfl
    | cons b bs => cases hl
  | cons i is ih =>
    intro rs ds e hb hl hi
    cases bs with
    | nil => cases hl
    | cons b bs =>
      cases hb b (List.mem_cons_self ..)
      have h1 := ih (bs := bs) e (fun b m => hb b (List.mem_cons_of_mem _ m)) (by simpa using hl) (fun j m => hi j (List.mem_cons_of_mem _ m))
      have hlt := hi i (List.mem_cons_self ..)
      have key : ∀ (rs : List Rv) (ds : List PyData) (i : Nat), rds ρ rs = some ds → i < rs.length → ∃ r d, rs[i]? = some r ∧ ds[i]? = some d ∧ rd ρ r = some d := by
        intro rs
        induction rs with
        | nil => intro ds i _ h; cases h
        | cons r rs ih2 =>
          intro ds i e h
          obtain ⟨d, ed, e⟩ := bind_some e
          obtain ⟨ds', eds, e⟩ := bind_some e
          cases e
          cases i with
          | zero => exact ⟨r, d, rfl, rfl, ed⟩
          | succ i => exact ih2 ds' i eds (by simpa using h)
      obtain ⟨r, d, er, ed, erd⟩ := key rs ds i e hlt
      unfold pick at h1 ⊢
      rw [List.filterMap_cons, er, List.filterMap_cons, ed]
      show args ρ (true :: bs) (r :: _) = some (d :: _)
      unfold args
      rw [show argOf ρ true r = some d from erd, h1]
      rfl
theorem f_callPK {bs : List Bool} {is : List Nat} {m : List PyData → Option PyData} (hb : bs.all (fun b => b) = true) (hl : bs.length = is.length) (h : Er fs ρ t fun xs t1 => is.all (fun i => i < xs.length) = true ∧ ∃ z, m (pick is xs) = some z ∧ Q z t1) : Ef (mCallP bs m (mPick is fs)) ρ t Q := by
  obtain ⟨rs, t1, xs, e, ex, hi, z, ez, q⟩ := h
  have hlen : ∀ (rs : List Rv) (xs : List PyData), rds ρ rs = some xs → rs.length = xs.length := by
    intro rs
    induction rs with
    | nil => intro xs e; cases e; rfl
    | cons r rs ih =>
      intro xs e
      obtain ⟨d, ed, e⟩ := bind_some e
      obtain ⟨ds', eds, e⟩ := bind_some e
      cases e
      rw [List.length_cons, List.length_cons, ih _ eds]
  refine ⟨z, t1, ev_callP (rs := pick is rs) ?_ (pick_args ex (fun b m => by simpa using List.all_eq_true.mp hb b m) hl (fun i m => ?_)) ez, q⟩
  · unfold mPick
    rw [e]
  · rw [hlen _ _ ex]
    simpa using List.all_eq_true.mp hi i m
theorem f_keep (h : Eg gL ρ t Q) : Ef (mKeep gL) ρ t Q := by
  obtain ⟨d, t1, e, q⟩ := h
  exact ⟨d, t1, ev_keep e, q⟩
theorem f_tup (h : Ek fs ρ t fun ds t1 => ds.length ≤ sizeLine ∧ Q (.tuple ds) t1) : Ef (mTup fs) ρ t Q := by
  obtain ⟨rs, t1, ds, e, ed, hz, q⟩ := h
  exact ⟨_, t1, ev_tup e ed hz, q⟩
theorem l_lst (h : Ek fs ρ t fun ds t1 => ds.length ≤ sizeLine ∧ Q (.list ds) t1) : Eg (mLst fs) ρ t Q := by
  obtain ⟨rs, t1, ds, e, ed, hz, q⟩ := h
  exact ⟨_, t1, ev_lst e ed hz, q⟩
theorem l_dict {ks : List Key} (h : Ek fs ρ t fun ds t1 => (ds.length = ks.length ∧ ks.Nodup ∧ ks.length ≤ 15) ∧ Q (.dict (mapD ks ds)) t1) : Eg (mDict ks fs) ρ t Q := by
  obtain ⟨rs, t1, ds, e, ed, hz, q⟩ := h
  exact ⟨_, t1, ev_dict e ed hz, q⟩
theorem f_if (h : Eg c ρ t fun b t1 => if b = true then Ef fa ρ t1 Q else Ef fb ρ t1 Q) : Ef (mIf c fa fb) ρ t Q := by
  obtain ⟨b, t1, e, q⟩ := h
  cases b with
  | true => rw [if_pos rfl] at q; obtain ⟨d, t2, e2, q⟩ := q; exact ⟨d, t2, ev_ifT e e2, q⟩
  | false => rw [if_neg (by decide)] at q; obtain ⟨d, t2, e2, q⟩ := q; exact ⟨d, t2, ev_ifF e e2, q⟩
theorem f_andV (h : Ef fa ρ t fun d t1 => ∃ b, d = .bool b ∧ if b = true then Ef fb ρ t1 Q else Q (.bool false) t1) : Ef (mAndV fa fb) ρ t Q := by
  obtain ⟨_, t1, e, b, rfl, q⟩ := h
  cases b with
  | true => rw [if_pos rfl] at q; obtain ⟨d, t2, e2, q⟩ := q; refine ⟨d, t2, ?_, q⟩; unfold mAndV; rw [e]; exact e2
  | false => rw [if_neg (by decide)] at q; refine ⟨_, t1, ?_, q⟩; unfold mAndV; rw [e]; rfl
theorem f_orV (h : Ef fa ρ t fun d t1 => ∃ b, d = .bool b ∧ if b = true then Q (.bool true) t1 else Ef fb ρ t1 Q) : Ef (mOrV fa fb) ρ t Q := by
  obtain ⟨_, t1, e, b, rfl, q⟩ := h
  cases b with
  | false => rw [if_neg (by decide)] at q; obtain ⟨d, t2, e2, q⟩ := q; refine ⟨d, t2, ?_, q⟩; unfold mOrV; rw [e]; exact e2
  | true => rw [if_pos rfl] at q; refine ⟨_, t1, ?_, q⟩; unfold mOrV; rw [e]; rfl
theorem f_notV (h : Ef fa ρ t fun d t1 => ∃ b, d = .bool b ∧ Q (.bool (!b)) t1) : Ef (mNotV fa) ρ t Q := by
  obtain ⟨_, t1, e, b, rfl, q⟩ := h
  refine ⟨_, t1, ?_, q⟩; unfold mNotV; rw [e]
theorem b_test (h : Ef f ρ t fun d t1 => ∃ b, d = .bool b ∧ QB b t1) : Eg (mTest f) ρ t QB := by
  obtain ⟨_, t1, e, b, rfl, q⟩ := h
  exact ⟨b, t1, ev_test e, q⟩
theorem b_and (h : Eg c ρ t fun b t1 => if b = true then Eg c' ρ t1 QB else QB false t1) : Eg (mAnd c c') ρ t QB := by
  obtain ⟨b, t1, e, q⟩ := h
  cases b with
  | true => rw [if_pos rfl] at q; obtain ⟨d, t2, e2, q⟩ := q; exact ⟨d, t2, ev_andT e e2, q⟩
  | false => rw [if_neg (by decide)] at q; exact ⟨_, t1, ev_andF e, q⟩
theorem b_or (h : Eg c ρ t fun b t1 => if b = true then QB true t1 else Eg c' ρ t1 QB) : Eg (mOr c c') ρ t QB := by
  obtain ⟨b, t1, e, q⟩ := h
  cases b with
  | false => rw [if_neg (by decide)] at q; obtain ⟨d, t2, e2, q⟩ := q; exact ⟨d, t2, ev_orF e e2, q⟩
  | true => rw [if_pos rfl] at q; exact ⟨_, t1, ev_orT e, q⟩
theorem b_not (h : Eg c ρ t fun b t1 => QB (!b) t1) : Eg (mNot c) ρ t QB := by
  obtain ⟨b, t1, e, q⟩ := h
  exact ⟨_, t1, ev_not e, q⟩
theorem b_yes (q : QB true t) : Eg (mYes : Env → T → Option (Bool × T)) ρ t QB := ⟨true, t, rfl, q⟩
theorem f_isi {n : String} (h : Ed fa ρ t fun x t1 => Q (.bool (isTy n x)) t1) : Ef (mIsi n fa) ρ t Q := by
  obtain ⟨r1, t1, x, e1, ex, q⟩ := h
  refine ⟨_, t1, ?_, q⟩
  unfold mIsi
  rw [e1]
  show (rd ρ r1 >>= _) = _
  rw [ex]
  rfl
theorem f_sl {l h' : Env → T → Option (Option Int × T)} (h : Ed f ρ t fun x t1 => Eg l ρ t1 fun lo t2 => Eg h' ρ t2 fun hi t3 => ∃ z, sliceD x lo hi = some z ∧ Q z t3) : Ef (mSl f l h') ρ t Q := by
  obtain ⟨r1, t1, x, e1, ex, lo, t2, e2, hi, t3, e3, z, ez, q⟩ := h
  exact ⟨z, t3, ev_sl e1 e2 e3 ex ez, q⟩
theorem o_no {QO : Option Int → T → Prop} (q : QO none t) : Eg (mNoP : Env → T → Option (Option Int × T)) ρ t QO := ⟨none, t, rfl, q⟩
theorem o_part {QO : Option Int → T → Prop} (h : Ef f ρ t fun d t1 => ∃ i, d = .int i ∧ QO (some i) t1) : Eg (mPart f) ρ t QO := by
  obtain ⟨_, t1, e, i, rfl, q⟩ := h
  exact ⟨_, t1, ev_part e, q⟩
theorem i_items (h : Ef f ρ t fun d t1 => ∃ ds, itemsOf d = some ds ∧ QL ds t1) : Eg (mItems f) ρ t QL := by
  obtain ⟨d, t1, e, ds, ed, q⟩ := h
  exact ⟨ds, t1, ev_items e ed, q⟩
theorem i_itemsB {ds : List PyData} (h : ρ[i]? = some (some (.bor d))) (hd : itemsOf d = some ds) (q : QL ds t) : Eg (mItems (mV i)) ρ t QL := by
  refine ⟨ds, t, ?_, q⟩
  cases hf : flat d with
  | true =>
    have e : mV i ρ t = some (.fro d, t) := by unfold mV; rw [h]; dsimp only; rw [hf]; rfl
    exact ev_items e hd
  | false =>
    have e : mV i ρ t = some (.loan i, t) := by unfold mV; rw [h]; dsimp only; rw [hf]; rfl
    unfold mItems
    rw [e]
    dsimp only
    rw [h]
    dsimp only
    rw [hd]
theorem i_enum (h : Eg (mItems f) ρ t fun ds t1 => QL (withIx ds) t1) : Eg (mEnum f) ρ t QL := by
  obtain ⟨ds, t1, e, q⟩ := h
  exact ⟨_, t1, ev_enum e, q⟩
/-- numbers as data -/
def natsD (xs : List Nat) : List PyData := xs.map fun (n : Nat) => PyData.int (n : Int)
theorem i_range1 (h : Ek fs ρ t fun ds t1 => ∃ j : Int, ds = [.int j] ∧ (-(2 ^ 62) ≤ j ∧ j < 2 ^ 62) ∧ QL (natsD (List.range j.toNat)) t1) : Eg (mRange1 fs) ρ t QL := by
  obtain ⟨rs, t1, _, e, ek, j, rfl, hj, q⟩ := h
  have : rs = [.fro (.int j)] := by
    cases rs with
    | nil => cases ek
    | cons r rs =>
      cases r with
      | fro d =>
        unfold kept at ek
        cases z : kept rs with
        | none => rw [z] at ek; cases ek
        | some l =>
          rw [z] at ek
          cases ek
          cases rs with
          | nil => rfl
          | cons r rs =>
            cases r with
            | fro d => unfold kept at z; cases z2 : kept rs with | none => rw [z2] at z; cases z | some l => rw [z2] at z; cases z
            | loan i => cases z
            | tray k => cases z
      | loan i => cases ek
      | tray k => cases ek
  subst this
  exact ⟨_, t1, ev_range1 e hj, q⟩
theorem v_rv {QV : Val → T → Prop} (h : Ef f ρ t fun d t1 => QV (.fro d) t1) : Eg (mRv f) ρ t QV := by
  obtain ⟨d, t1, e, q⟩ := h
  exact ⟨_, t1, ev_rv e, q⟩
theorem v_new {QV : Val → T → Prop} (h : Eg gL ρ t fun d t1 => QV (.own d) t1) : Eg (mNew gL) ρ t QV := by
  obtain ⟨d, t1, e, q⟩ := h
  exact ⟨_, t1, ev_new e, q⟩
theorem vs_nil {QV : List Val → T → Prop} (q : QV [] t) : Eg (mNilV : Env → T → Option (List Val × T)) ρ t QV := ⟨[], t, rfl, q⟩
theorem vs_cons {QV : List Val → T → Prop} {g : Env → T → Option (Val × T)} {gs : Env → T → Option (List Val × T)} (h : Eg g ρ t fun v t1 => Eg gs ρ t1 fun vs t2 => QV (v :: vs) t2) : Eg (mConsV g gs) ρ t QV := by
  obtain ⟨v, t1, e, vs, t2, es, q⟩ := h
  exact ⟨_, t2, ev_consV e es, q⟩
theorem l_listL (h : Er fs ρ t fun xs t1 => ∃ ds, (xs = [.list ds] ∨ xs = [.tuple ds]) ∧ Q (.list ds) t1) : Eg (mListL fs) ρ t Q := by
  obtain ⟨rs, t1, xs, e, ex, ds, ed, q⟩ := h
  refine ⟨_, t1, ?_, q⟩
  unfold mListL
  rw [e]
  show (rds ρ rs >>= _) = _
  rw [ex]
  rcases ed with rfl | rfl <;> rfl

/-! ### statements -/
variable {N : Env → T → Prop} {R : PyData → T → Prop} {B C : Env → T → Prop} {m m' : MS T}
theorem Es.mono {N' : Env → T → Prop} {R' : PyData → T → Prop} {B' C' : Env → T → Prop} (h : Es m ρ t N R B C) (hN : ∀ ρ t, N ρ t → N' ρ t) (hR : ∀ d t, R d t → R' d t) (hB : ∀ ρ t, B ρ t → B' ρ t) (hC : ∀ ρ t, C ρ t → C' ρ t) : Es m ρ t N' R' B' C' := by
  obtain ⟨r, t', e, q⟩ := h
  refine ⟨r, t', e, ?_⟩
  cases r with
  | nx ρ' => exact hN _ _ q
  | rt d => exact hR _ _ q
  | bk ρ' => exact hB _ _ q
  | ct ρ' => exact hC _ _ q
theorem s_set_env {v : Option Val} (e : ρ.set i v = ρ') (h : Es m ρ' t N R B C) : Es m (ρ.set i v) t N R B C := e ▸ h
theorem s_env (e : ρ = ρ') (h : Es m ρ' t N R B C) : Es m ρ t N R B C := e ▸ h
theorem s_skip (h : N ρ t) : Es mSkip ρ t N R B C := ⟨.nx ρ, t, rfl, h⟩
theorem s_seq (h : Es m ρ t (fun ρ1 t1 => Es m' ρ1 t1 N R B C) R B C) : Es (mSeq m m') ρ t N R B C := by
  obtain ⟨r, t1, e, q⟩ := h
  cases r with
  | nx ρ1 => obtain ⟨r2, t2, e2, q2⟩ := q; exact ⟨r2, t2, (seq_nx e).trans e2, q2⟩
  | rt d => exact ⟨.rt d, t1, seq_rt e, q⟩
  | bk ρ1 => refine ⟨.bk ρ1, t1, ?_, q⟩; unfold mSeq; rw [e]
  | ct ρ1 => refine ⟨.ct ρ1, t1, ?_, q⟩; unfold mSeq; rw [e]
theorem s_break (h : B ρ t) : Es mBreak ρ t N R B C := ⟨.bk ρ, t, rfl, h⟩
theorem s_cont (h : C ρ t) : Es mCont ρ t N R B C := ⟨.ct ρ, t, rfl, h⟩
theorem s_if (h : Eg c ρ t fun b t1 => if b = true then Es m ρ t1 N R B C else Es m' ρ t1 N R B C) : Es (mIfS c m m') ρ t N R B C := by
  obtain ⟨b, t1, e, q⟩ := h
  cases b with
  | true => rw [if_pos rfl] at q; obtain ⟨r, t2, e2, q⟩ := q; exact ⟨r, t2, (if_t e).trans e2, q⟩
  | false => rw [if_neg (by decide)] at q; obtain ⟨r, t2, e2, q⟩ := q; exact ⟨r, t2, (if_f e).trans e2, q⟩
theorem s_drop (h : Ed f ρ t fun _ t1 => N ρ t1) : Es (mDrop f) ρ t N R B C := by
  obtain ⟨r, t1, d, e, _, q⟩ := h
  refine ⟨.nx ρ, t1, ?_, q⟩
  unfold mDrop
  rw [e]
theorem s_ret (h : Ef f ρ t R) : Es (mRet f) ρ t N R B C := by
  obtain ⟨d, t1, e, q⟩ := h
  exact ⟨.rt d, t1, ev_ret e, q⟩
theorem s_retO (h : ρ[i]? = some (some (.own d))) (q : R d t) : Es (mRet (mV i)) ρ t N R B C := by
  refine ⟨.rt d, t, ev_retO (j := i) ?_ h, q⟩
  unfold mV
  rw [h]
theorem s_retN (q : R .none t) : Es (mRetN) ρ t N R B C := ⟨.rt .none, t, rfl, q⟩
theorem s_set {g : Env → T → Option (Val × T)} (h : Eg g ρ t fun v t1 => N (ρ.set i (some v)) t1) : Es (mSet i g) ρ t N R B C := by
  obtain ⟨v, t1, e, q⟩ := h
  exact ⟨_, t1, ev_set e, q⟩
theorem s_par {j : Nat} {gs : Env → T → Option (List Val × T)} (h : Eg gs ρ t fun vs t1 => ∃ v w, vs = [v, w] ∧ N ((ρ.set i (some v)).set j (some w)) t1) : Es (mPar i j gs) ρ t N R B C := by
  obtain ⟨_, t1, e, v, w, rfl, q⟩ := h
  exact ⟨_, t1, ev_par e, q⟩
theorem s_pars {is : List Nat} {gs : Env → T → Option (List Val × T)} (h : Eg gs ρ t fun vs t1 => (vs.length ≤ sizeLine ∧ vs.length = is.length) ∧ ∃ ρ1, setAll ρ is vs = some ρ1 ∧ N ρ1 t1) : Es (mPars is gs) ρ t N R B C := by
  obtain ⟨vs, t1, e, hz, ρ1, e1, q⟩ := h
  refine ⟨.nx ρ1, t1, ?_, q⟩
  unfold mPars
  rw [e]
  dsimp only
  rw [if_pos hz, e1]
theorem s_asg {g : PyData → Env → Option Env} (h : Ef f ρ t fun d t1 => ∃ ρ1, g d ρ = some ρ1 ∧ N ρ1 t1) : Es (mAsg f g) ρ t N R B C := by
  obtain ⟨d, t1, e, ρ1, e1, q⟩ := h
  exact ⟨_, t1, ev_asg e e1, q⟩
theorem s_app (h : Ef f ρ t fun d t1 => ∃ ds, ρ[i]? = some (some (.own (.list ds))) ∧ ds.length < sizeLine ∧ N (ρ.set i (some (.own (.list (ds ++ [d]))))) t1) : Es (mApp i f) ρ t N R B C := by
  obtain ⟨d, t1, e, ds, e1, hz, q⟩ := h
  exact ⟨_, t1, ev_app e e1 hz, q⟩
theorem s_aug {g : PyData → PyData → Option PyData} {x : PyData} (hx : cur ρ i = some x) (h : Ed f ρ t fun y t1 => ∃ z, g x y = some z ∧ N (ρ.set i (some (.fro z))) t1) : Es (mAug i g f) ρ t N R B C := by
  obtain ⟨r, t1, y, e, ey, z, ez, q⟩ := h
  exact ⟨_, t1, ev_aug hx e ey ez, q⟩
theorem s_end (h : Es m ρ t (fun ρ1 t1 => ∃ d, ρ1[i]? = some (some (.own d)) ∧ N (ρ1.set i (some (.fro d))) t1) R B C) : Es (mEnd i m) ρ t N R B C := by
  obtain ⟨r, t1, e, q⟩ := h
  cases r with
  | nx ρ1 =>
    obtain ⟨d, e2, q⟩ := q
    refine ⟨.nx _, t1, ?_, q⟩
    unfold mEnd
    rw [e]
    dsimp only
    rw [e2]
  | rt d => refine ⟨.rt d, t1, ?_, q⟩; unfold mEnd; rw [e]
  | bk ρ1 => refine ⟨.bk ρ1, t1, ?_, q⟩; unfold mEnd; rw [e]
  | ct ρ1 => refine ⟨.ct ρ1, t1, ?_, q⟩; unfold mEnd; rw [e]
/-- a for: P before each turn -/
theorem s_for {its : Env → T → Option (List PyData × T)} {g : PyData → Env → Option Env} {body : MS T} (P : Nat → Env → T → Prop)
    (hi : Eg its ρ t fun ds t1 => P 0 ρ t1 ∧ (∀ j d ρ t, ds[j]? = some d → P j ρ t → ∃ ρ1, g d ρ = some ρ1 ∧ Es body ρ1 t (P (j + 1)) R N (P (j + 1))) ∧ ∀ ρ t, P ds.length ρ t → N ρ t) : Es (mFor its g body) ρ t N R B C := by
  obtain ⟨ds, t1, e, h0, hs, hN⟩ := hi
  have key : ∀ (es : List PyData) (j : Nat) (ρ : Env) (t : T), ds.drop j = es → j ≤ ds.length → P j ρ t → Es (forL g body es) ρ t N R B C := by
    intro es
    induction es with
    | nil =>
      intro j ρ t hd hj hp
      have : j = ds.length := by
        have := congrArg List.length hd
        rw [List.length_drop, List.length_nil] at this
        omega
      subst this
      exact ⟨.nx ρ, t, rfl, hN _ _ hp⟩
    | cons d es ih =>
      intro j ρ t hd hj hp
      have hjl : j < ds.length := by
        have := congrArg List.length hd
        rw [List.length_drop, List.length_cons] at this
        omega
      have hdj : ds[j]? = some d := by
        have := congrArg List.head? hd
        rw [List.head?_drop, List.head?_cons] at this
        exact this
      have hd2 : ds.drop (j + 1) = es := by
        have := congrArg List.tail hd
        rw [List.tail_drop, List.tail_cons] at this
        exact this
      obtain ⟨ρ1, e1, r, t2, e2, q⟩ := hs j d ρ t hdj hp
      have un : forL g body (d :: es) ρ t = (match body ρ1 t with
        | some (.nx ρ2, t2) => forL g body es ρ2 t2
        | some (.ct ρ2, t2) => forL g body es ρ2 t2
        | some (.bk ρ2, t2) => some (.nx ρ2, t2)
        | some (.rt x, t2) => some (.rt x, t2)
        | none => none) := by
        show (match g d ρ with
          | none => none
          | some ρ1 => match body ρ1 t with
            | some (.nx ρ2, t2) => forL g body es ρ2 t2
            | some (.ct ρ2, t2) => forL g body es ρ2 t2
            | some (.bk ρ2, t2) => some (.nx ρ2, t2)
            | some (.rt x, t2) => some (.rt x, t2)
            | none => none) = _
        rw [e1]
      rw [e2] at un
      cases r with
      | nx ρ2 => obtain ⟨r3, t3, e3, q3⟩ := ih (j + 1) ρ2 t2 hd2 hjl q; exact ⟨r3, t3, un.trans e3, q3⟩
      | rt x => exact ⟨.rt x, t2, un, q⟩
      | bk ρ2 => exact ⟨.nx ρ2, t2, un, q⟩
      | ct ρ2 => obtain ⟨r3, t3, e3, q3⟩ := ih (j + 1) ρ2 t2 hd2 hjl q; exact ⟨r3, t3, un.trans e3, q3⟩
  obtain ⟨r, t2, e2, q⟩ := key ds 0 ρ t1 rfl (Nat.zero_le _) h0
  refine ⟨r, t2, ?_, q⟩
  unfold mFor
  rw [e]
  exact e2
/-- a while: P before each turn, of which at most n come -/
theorem s_while {n : Nat} (P : Nat → Env → T → Prop) (h0 : P n ρ t)
    (hs : ∀ k ρ t, P k ρ t → Eg c ρ t fun b t1 => if b = true then ∃ k', k = k' + 1 ∧ Es m ρ t1 (P k') R N (P k') else 0 < k ∧ N ρ t1) : Es (whileN c m n) ρ t N R B C := by
  induction n generalizing ρ t with
  | zero =>
    obtain ⟨b, t1, e, q⟩ := hs 0 ρ t h0
    cases b with
    | true => rw [if_pos rfl] at q; obtain ⟨k', z, _⟩ := q; cases z
    | false => rw [if_neg (by decide)] at q; exact absurd q.1 (by decide)
  | succ n ih =>
    obtain ⟨b, t1, e, q⟩ := hs (n + 1) ρ t h0
    cases b with
    | true =>
      rw [if_pos rfl] at q
      obtain ⟨k', z, r, t2, e2, q⟩ := q
      cases z
      cases r with
      | nx ρ2 =>
        obtain ⟨r3, t3, e3, q3⟩ := ih q
        refine ⟨r3, t3, ?_, q3⟩
        unfold whileN; rw [e]; dsimp only; rw [e2]; exact e3
      | rt x =>
        refine ⟨.rt x, t2, ?_, q⟩
        unfold whileN; rw [e]; dsimp only; rw [e2]
      | bk ρ2 =>
        refine ⟨.nx ρ2, t2, ?_, q⟩
        unfold whileN; rw [e]; dsimp only; rw [e2]
      | ct ρ2 =>
        obtain ⟨r3, t3, e3, q3⟩ := ih q
        refine ⟨r3, t3, ?_, q3⟩
        unfold whileN; rw [e]; dsimp only; rw [e2]; exact e3
    | false =>
      rw [if_neg (by decide)] at q
      refine ⟨.nx ρ, t1, ?_, q.2⟩
      unfold whileN; rw [e]
/-- a comprehension, item by item -/
theorem l_lc {its : Env → T → Option (List PyData × T)} {g : PyData → Env → Option Env} {vs : List Nat} (P : Nat → List PyData → T → Prop)
    (hi : Eg its ρ t fun ds t1 => ds.length ≤ sizeLine ∧ P 0 [] t1 ∧ (∀ j d acc t, ds[j]? = some d → P j acc t → ∃ ρ1, g d (wipeR ρ vs) = some ρ1 ∧ Eg c ρ1 t fun b t1 => if b = true then Ef f ρ1 t1 fun x t2 => P (j + 1) (acc ++ [x]) t2 else P (j + 1) acc t1) ∧ ∀ acc t, P ds.length acc t → Q (.list acc) t) : Eg (mLc its g c f vs) ρ t Q := by
  obtain ⟨ds, t1, e, hz, h0, hs, hN⟩ := hi
  have key : ∀ (es : List PyData) (j : Nat) (acc : List PyData) (t : T), ds.drop j = es → j ≤ ds.length → acc.length ≤ j → P j acc t → ∃ out t', lcL g c f (wipeR ρ vs) es acc t = some (out, t') ∧ P ds.length out t' := by
    intro es
    induction es with
    | nil =>
      intro j acc t hd hj ha hp
      have : j = ds.length := by
        have := congrArg List.length hd
        rw [List.length_drop, List.length_nil] at this
        omega
      subst this
      exact ⟨acc, t, rfl, hp⟩
    | cons d es ih =>
      intro j acc t hd hj ha hp
      have hjl : j < ds.length := by
        have := congrArg List.length hd
        rw [List.length_drop, List.length_cons] at this
        omega
      have hdj : ds[j]? = some d := by
        have := congrArg List.head? hd
        rw [List.head?_drop, List.head?_cons] at this
        exact this
      have hd2 : ds.drop (j + 1) = es := by
        have := congrArg List.tail hd
        rw [List.tail_drop, List.tail_cons] at this
        exact this
      obtain ⟨ρ1, e1, b, t2, e2, q⟩ := hs j d acc t hdj hp
      cases b with
      | true =>
        rw [if_pos rfl] at q
        obtain ⟨x, t3, e3, q⟩ := q
        obtain ⟨out, t4, e4, q4⟩ := ih (j + 1) (acc ++ [x]) t3 hd2 hjl (by rw [List.length_append, List.length_singleton]; omega) q
        refine ⟨out, t4, ?_, q4⟩
        unfold lcL; rw [e1]; dsimp only; rw [e2]; dsimp only; rw [e3]; dsimp only; rw [if_pos (by omega)]; exact e4
      | false =>
        rw [if_neg (by decide)] at q
        obtain ⟨out, t4, e4, q4⟩ := ih (j + 1) acc t2 hd2 hjl (by omega) q
        refine ⟨out, t4, ?_, q4⟩
        unfold lcL; rw [e1]; dsimp only; rw [e2]; exact e4
  obtain ⟨out, t2, e2, q⟩ := key ds 0 [] t1 rfl (Nat.zero_le _) (Nat.le_refl _) h0
  refine ⟨_, t2, ?_, hN _ _ q⟩
  unfold mLc
  rw [e]
  dsimp only
  rw [e2]
theorem ex_bool {b : Bool} {P : Bool → Prop} (q : P b) : ∃ c, PyData.bool b = .bool c ∧ P c := ⟨b, rfl, q⟩
theorem ex_int {b : Int} {P : Int → Prop} (q : P b) : ∃ c, PyData.int b = .int c ∧ P c := ⟨b, rfl, q⟩
theorem ex_itL {ds : List PyData} {P : List PyData → Prop} (q : P ds) : ∃ es, itemsOf (.list ds) = some es ∧ P es := ⟨ds, rfl, q⟩
theorem ex_itT {ds : List PyData} {P : List PyData → Prop} (q : P ds) : ∃ es, itemsOf (.tuple ds) = some es ∧ P es := ⟨ds, rfl, q⟩
theorem ex_rng {b : Int} {P : Int → Prop} (q : P b) : ∃ c, [PyData.int b] = [.int c] ∧ P c := ⟨b, rfl, q⟩
theorem ex_two {a b : Val} {P : Val → Val → Prop} (q : P a b) : ∃ v w, [a, b] = [v, w] ∧ P v w := ⟨a, b, rfl, q⟩
theorem ex_lstL {ds : List PyData} {P : List PyData → Prop} (q : P ds) : ∃ es, ([PyData.list ds] = [.list es] ∨ [PyData.list ds] = [.tuple es]) ∧ P es := ⟨ds, .inl rfl, q⟩
theorem ex_lstT {ds : List PyData} {P : List PyData → Prop} (q : P ds) : ∃ es, ([PyData.tuple ds] = [.list es] ∨ [PyData.tuple ds] = [.tuple es]) ∧ P es := ⟨ds, .inr rfl, q⟩
theorem ex_env {o : Option Env} {ρ1 : Env} {P : Env → Prop} (h : o = some ρ1) (q : P ρ1) : ∃ ρ1, o = some ρ1 ∧ P ρ1 := ⟨ρ1, h, q⟩
theorem ex_own {o : Option (Option Val)} {ds : List PyData} {P : List PyData → Prop} (h : o = some (some (.own (.list ds)))) (q : P ds) : ∃ ds, o = some (some (.own (.list ds))) ∧ P ds := ⟨ds, h, q⟩
theorem op_ok {o : Option PyData} {z : PyData} {P : PyData → Prop} (h : o = some z) (q : P z) : ∃ z, o = some z ∧ P z := ⟨z, h, q⟩
theorem op_okT {T : Type} {o : Option (PyData × T)} {z : PyData} {t : T} {P : PyData → T → Prop} (h : o = some (z, t)) (q : P z t) : ∃ z t, o = some (z, t) ∧ P z t := ⟨z, t, h, q⟩
theorem if_yes {b : Bool} {P P' : Prop} (h : b = true) (q : P) : if b = true then P else P' := by rw [if_pos h]; exact q
theorem if_no {b : Bool} {P P' : Prop} (h : b = false) (q : P') : if b = true then P else P' := by rw [if_neg (by rw [h]; decide)]; exact q
theorem if_both {b : Bool} {P P' : Prop} (q : b = true → P) (q' : b = false → P') : if b = true then P else P' := by
  cases b with
  | true => exact q rfl
  | false => exact q' rfl
end
theorem f_callT {bs : List Bool} {m : Tr → List PyData → Option (PyData × Tr)} {fs : Env → Tr → Option (List Rv × Tr)} {ρ : Env} {t : Tr} {Q : PyData → Tr → Prop} {i : Nat} (hi : ρ[i]? = some (some (.tray 0)))
    (h : Ea fs ρ t bs fun xs t1 => ∃ z t2, m t1 xs = some (z, t2) ∧ Q z t2) : Ef (mCallT bs m (mCons (mV i) fs)) ρ t Q := by
  obtain ⟨rs, t1, xs, e, ex, z, t2, ez, q⟩ := h
  have e0 : mV i ρ t = some (.tray 0, t) := by unfold mV; rw [hi]
  exact ⟨z, t2, ev_callT (ev_cons e0 e) ex ez, q⟩
theorem fun_ok {n : Nat} {bs : List Bool} {body : MS Unit} {ds : List PyData} {d : PyData} (h : Es body (entry n bs ds) () No (fun x _ => x = d) No No) : mFun n bs body ds = some d := by
  obtain ⟨r, t, e, q⟩ := h
  unfold mFun
  rw [e]
  cases r with
  | nx ρ => exact q.elim
  | rt x => cases (show x = d from q); rfl
  | bk ρ => exact q.elim
  | ct ρ => exact q.elim
theorem fun_okP {n : Nat} {bs : List Bool} {body : MS Unit} {ds : List PyData} {P : PyData → Prop} (h : Es body (entry n bs ds) () No (fun x _ => P x) No No) : ∃ d, mFun n bs body ds = some d ∧ P d := by
  obtain ⟨r, t, e, q⟩ := h
  unfold mFun
  rw [e]
  cases r with
  | nx ρ => exact q.elim
  | rt x => exact ⟨x, rfl, q⟩
  | bk ρ => exact q.elim
  | ct ρ => exact q.elim
theorem funT_ok {n : Nat} {bs : List Bool} {body : MS Tr} {ds : List PyData} {t : Tr} {P : PyData → Tr → Prop} (h : Es body (entryT n bs ds) t No P No No) : ∃ d t', mFunT n bs body t ds = some (d, t') ∧ P d t' := by
  obtain ⟨r, t', e, q⟩ := h
  unfold mFunT
  rw [e]
  cases r with
  | nx ρ => exact q.elim
  | rt x => exact ⟨x, t', rfl, q⟩
  | bk ρ => exact q.elim
  | ct ρ => exact q.elim
/-- what is taken from one's own list -/
def Ep {T : Type} (f : Env → T → Option (PyData × List PyData × T)) (ρ : Env) (t : T) (Q : PyData → List PyData → T → Prop) : Prop := ∃ d ds t', f ρ t = some (d, ds, t') ∧ Q d ds t'
section
variable {T : Type} {ρ : Env} {t : T} {i j : Nat} {fk : ME T} {N : Env → T → Prop} {R : PyData → T → Prop} {B C : Env → T → Prop} {f : Env → T → Option (PyData × List PyData × T)} {QP : PyData → List PyData → T → Prop}
theorem p_at (h : Ef fk ρ t fun d t1 => ∃ ds, ρ[j]? = some (some (.own (.list ds))) ∧ ∃ k : Nat, d = .int (k : Int) ∧ k < 4611686018427387904 ∧ ∃ x, ds[k]? = some x ∧ QP x (ds.eraseIdx k) t1) : Ep (mPopAt j fk) ρ t QP := by
  obtain ⟨d, t1, e, ds, e2, k, rfl, hk, x, ex, q⟩ := h
  refine ⟨x, _, t1, ?_, q⟩
  unfold mPopAt
  rw [e]
  dsimp only
  rw [e2]
  dsimp only
  have hl : k < ds.length := (List.getElem?_eq_some_iff.mp ex).1
  have es : seqIndex? (k : Int) ds.length = some k := by
    unfold seqIndex?
    simp
    omega
  rw [es]
  dsimp only
  rw [ex]
  dsimp only
  rw [if_pos ⟨by omega, by omega⟩]
theorem p_end (h : ∃ ds, ρ[j]? = some (some (.own (.list ds))) ∧ ∃ x, ds[ds.length - 1]? = some x ∧ QP x ds.dropLast t) : Ep (mPopEnd j : Env → T → _) ρ t QP := by
  obtain ⟨ds, e2, x, ex, q⟩ := h
  refine ⟨x, _, t, ?_, q⟩
  unfold mPopEnd
  rw [e2]
  dsimp only
  rw [ex]
theorem s_setP (h : Ep f ρ t fun d ds t1 => N ((ρ.set j (some (.own (.list ds)))).set i (some (.fro d))) t1) : Es (mSetP i j f) ρ t N R B C := by
  obtain ⟨d, ds, t1, e, q⟩ := h
  refine ⟨.nx _, t1, ?_, q⟩
  unfold mSetP
  rw [e]
theorem s_dropP (h : Ep f ρ t fun _ ds t1 => N (ρ.set j (some (.own (.list ds)))) t1) : Es (mDropP j f) ρ t N R B C := by
  obtain ⟨d, ds, t1, e, q⟩ := h
  refine ⟨.nx _, t1, ?_, q⟩
  unfold mDropP
  rw [e]
theorem s_appP (h : Ep f ρ t fun d ds t1 => ∃ es, ρ[i]? = some (some (.own (.list es))) ∧ (i ≠ j ∧ es.length < sizeLine) ∧ N ((ρ.set j (some (.own (.list ds)))).set i (some (.own (.list (es ++ [d]))))) t1) : Es (mAppP i j f) ρ t N R B C := by
  obtain ⟨d, ds, t1, e, es, e2, hz, q⟩ := h
  refine ⟨.nx _, t1, ?_, q⟩
  unfold mAppP
  rw [e]
  dsimp only
  rw [e2]
  dsimp only
  rw [if_pos hz]
end
end Mi
/-! zip; xs[::-1]. -/
namespace Mi
open PySem L2

/-- what may be walked: kept, or lent -/
def still (ρ : Env) : Rv → Option PyData
  | .fro d => some d
  | .loan j => match ρ[j]? with
    | some (some (.bor d)) => some d
    | _ => none
  | _ => none
theorem still_ok {Γ : Gm} {ρ : Env} {t : Γ.T} {r : Rv} {d : PyData} (e : still ρ r = some d) {F1 H1 : Hp} {σ : L2.St} {v : V} (R1 : Rep Γ F1 H1 σ ρ t) (k1 : RvOk Γ F1 σ v r) :
    Dq Γ.K F1 v d ∨ ∃ a o, v = .ref a ∧ Own Γ.K F1 H1 a d ∧ a ∉ Γ.S ∧ Γ.F0 a = none ∧ Γ.H0 a = some o := by
  cases r with
  | fro d' => cases e; exact .inl k1
  | tray k => cases e
  | loan j =>
    unfold still at e
    dsimp only at e
    split at e
    · rename_i d' e3
      cases e
      obtain ⟨u, z1, z2⟩ := R1.slots j _ e3
      have k1 : σ[j]? = some (some v) := k1
      rw [k1] at z1
      cases z1
      exact z2
    · cases e
/-- pairs of items -/
def zipL (xs ys : List PyData) : List PyData := List.zipWith (fun x y => .tuple [x, y]) xs ys
theorem zipL_at {xs ys : List PyData} {i : Nat} {d : PyData} (h : (zipL xs ys)[i]? = some d) : ∃ x y, xs[i]? = some x ∧ ys[i]? = some y ∧ d = .tuple [x, y] := by
  unfold zipL at h
  rw [List.getElem?_zipWith] at h
  cases ex : xs[i]? with
  | none => rw [ex] at h; cases h
  | some x =>
    cases ey : ys[i]? with
    | none => rw [ex, ey] at h; cases h
    | some y => rw [ex, ey] at h; cases h; exact ⟨x, y, rfl, rfl, rfl⟩
theorem zipL_len (xs ys : List PyData) : (zipL xs ys).length = min xs.length ys.length := by
  unfold zipL
  rw [List.length_zipWith]
def mZip {T : Type} (fa fb : ME T) : Env → T → Option (List PyData × T) := fun ρ t => do
  let (r1, t1) ← fa ρ t
  let (r2, t2) ← fb ρ t1
  let x ← still ρ r1
  let y ← still ρ r2
  match x, y with
  | .list xs, .list ys => some (zipL xs ys, t2)
  | .tuple xs, .tuple ys => some (zipL xs ys, t2)
  | _, _ => none
section
variable {Γ : Gm} {X : Cx} {a b : Expr} {pos p : Pos} {fa fb : ME Γ.T}
theorem still_list {F F1 : Hp} {H1 : Hp} {v : V} {es : List PyData} (sm : Same F1 H1) (h : Dq Γ.K F1 v (.list es) ∨ ∃ a o, v = .ref a ∧ Own Γ.K F1 H1 a (.list es) ∧ a ∉ Γ.S ∧ Γ.F0 a = none ∧ Γ.H0 a = some o) : ∃ q vs, v = .ref q ∧ SqL Γ.K H1 q vs ∧ DqA Γ.K F1 vs es := by
  rcases h with h | ⟨q, o, rfl, h, _⟩
  · obtain ⟨q, vs, rfl, h1, k⟩ := h.dv sm
    exact ⟨q, vs, rfl, .of h1, k⟩
  · obtain ⟨_, vs, h1, k⟩ := h
    exact ⟨q, vs, rfl, .of h1, k⟩
theorem pi_zipD {elts : List Expr} {kk : Nat} {tpos : Pos} (hK : X.K = Γ.K) (hg : Gl X "zip") (hm : X.mg "zip" = none) (ha : PE X a (den Γ fa)) (hb : PE X b (den Γ fb))
    (hs : starEach [a, b] X.env = (false, eval a X.env) :: starEach [b] X.env := by rfl) (hs2 : starEach [b] X.env = (false, eval b X.env) :: starEach [] X.env := by rfl) (hpl : (backTo pos (starEach [b] X.env)).any (·.1) = false := by rfl) :
    PI X (.Tuple elts kk tpos) (.Call (.Name "zip" p) [a, b] [] pos) (denI Γ (mZip fa fb)) := pi_w (RZ.pi_zipA hg hm (pa_cons ha (pa_cons hb pa_nil hs2) hs) hs hpl) fun σ H Rr => by
  rintro ⟨F, ρ, t, items, t', R, e, q⟩
  obtain ⟨⟨r1, t1⟩, e1, e⟩ := bind_some e
  obtain ⟨⟨r2, t2⟩, e2, e⟩ := bind_some e
  obtain ⟨x, ex, e⟩ := bind_some e
  obtain ⟨y, ey, e⟩ := bind_some e
  have fin : ∀ {F' H' : Hp} {t3 : Γ.T} {x y : PyData} {u v : V}, Fin Γ F' H' t3 → Dq Γ.K F' u x → Dq Γ.K F' v y → ∀ T, H' T = none → ∃ F'', Ext [] F' H' F'' (upd H' T (.tup [u, v])) ∧ Dq Γ.K F'' (.ref T) (.tuple [x, y]) := fun {F' H' t3 x y u v} R' k k' T hT =>
    ⟨_, Ext.keep R'.ex hT, .tup (.of upd_same) (.cons (k.mono (Ext.keep (S := []) R'.ex hT).f) (.cons (k'.mono (Ext.keep (S := []) R'.ex hT).f) .nil))⟩
  refine ⟨F, ρ, t, r1, t1, R, e1, fun v1 F1 H1 R1 x1 k1 => ⟨F1, ρ, t1, r2, t2, R1, e2, fun v2 F2 H2 R2 x2 k2 => ?_⟩⟩
  have s1 := still_ok ex R2 (k1.mono x2.f)
  have s2 := still_ok ey R2 k2
  split at e
  · rename_i xs ys _
    cases e
    obtain ⟨q1, vs1, rfl, g1, j1⟩ := sq_of R2.ex (stays (Same.refl F2) R2.toFin s1 R2.toFin) (show itemsOf (.list xs) = some xs from rfl)
    obtain ⟨q2, vs2, rfl, g2, j2⟩ := sq_of R2.ex (stays (Same.refl F2) R2.toFin s2 R2.toFin) (show itemsOf (.list ys) = some ys from rfl)
    rcases j1 with ⟨_, j1⟩ | ⟨⟨es, z⟩, _⟩
    · rcases j2 with ⟨_, j2⟩ | ⟨⟨es, z⟩, _⟩
      · rw [hK]
        refine ⟨q1, q2, vs1, vs2, rfl, .inl ⟨j1, j2, q F2 H2 _ R2 (x1.then x2 R2) fun i F' H' t3 s R' => ?_⟩⟩
        obtain ⟨p1, us1, z1, h1, hq1⟩ := sq_of R'.ex (stays s R' s1 R2.toFin) (show itemsOf (.list xs) = some xs from rfl)
        obtain ⟨p2, us2, z2, h2, hq2⟩ := sq_of R'.ex (stays s R' s2 R2.toFin) (show itemsOf (.list ys) = some ys from rfl)
        cases z1
        cases z2
        rcases hq1 with ⟨_, hq1⟩ | ⟨⟨es, z⟩, _⟩
        · rcases hq2 with ⟨_, hq2⟩ | ⟨⟨es, z⟩, _⟩
          · refine ⟨fun d hd => ?_, fun hi => ⟨us1, us2, hq1, hq2, ?_⟩⟩
            · obtain ⟨a, b, ha, hb, rfl⟩ := zipL_at hd
              obtain ⟨u, hu, ku⟩ := h1.get ha
              obtain ⟨w, hw, kw⟩ := h2.get hb
              refine ⟨⟨us1, us2, u, w, hq1, hq2, hu, hw⟩, fun x' H'' yl => ?_⟩
              obtain ⟨T, u', w', rfl, hT, rfl, y1, y2⟩ := yl
              have e1 := y1 _ hq1
              have e2 := y2 _ hq2
              rw [hu] at e1
              rw [hw] at e2
              cases e1
              cases e2
              exact fin R' ku kw T hT
            · rw [zipL_len] at hi
              rw [h1.length, h2.length]
              omega
          · cases z
        · cases z
      · cases z
    · cases z
  · rename_i xs ys _
    cases e
    obtain ⟨q1, vs1, rfl, g1, j1⟩ := sq_of R2.ex (stays (Same.refl F2) R2.toFin s1 R2.toFin) (show itemsOf (.tuple xs) = some xs from rfl)
    obtain ⟨q2, vs2, rfl, g2, j2⟩ := sq_of R2.ex (stays (Same.refl F2) R2.toFin s2 R2.toFin) (show itemsOf (.tuple ys) = some ys from rfl)
    rcases j1 with ⟨⟨es, z⟩, _⟩ | ⟨_, j1⟩
    · cases z
    · rcases j2 with ⟨⟨es, z⟩, _⟩ | ⟨_, j2⟩
      · cases z
      · rw [hK]
        refine ⟨q1, q2, vs1, vs2, rfl, .inr ⟨j1, j2, q F2 H2 _ R2 (x1.then x2 R2) fun i F' H' t3 s R' => ?_⟩⟩
        obtain ⟨p1, us1, z1, h1, hq1⟩ := sq_of R'.ex (stays s R' s1 R2.toFin) (show itemsOf (.tuple xs) = some xs from rfl)
        obtain ⟨p2, us2, z2, h2, hq2⟩ := sq_of R'.ex (stays s R' s2 R2.toFin) (show itemsOf (.tuple ys) = some ys from rfl)
        cases z1
        cases z2
        rcases hq1 with ⟨⟨es, z⟩, _⟩ | ⟨_, hq1⟩
        · cases z
        · rcases hq2 with ⟨⟨es, z⟩, _⟩ | ⟨_, hq2⟩
          · cases z
          · refine ⟨fun d hd => ?_, fun hi => ⟨us1, us2, hq1, hq2, ?_⟩⟩
            · obtain ⟨a, b, ha, hb, rfl⟩ := zipL_at hd
              obtain ⟨u, hu, ku⟩ := h1.get ha
              obtain ⟨w, hw, kw⟩ := h2.get hb
              refine ⟨⟨us1, us2, u, w, hq1, hq2, hu, hw⟩, fun x' H'' yl => ?_⟩
              obtain ⟨T, u', w', rfl, hT, rfl, y1, y2⟩ := yl
              have e1 := y1 _ hq1
              have e2 := y2 _ hq2
              rw [hu] at e1
              rw [hw] at e2
              cases e1
              cases e2
              exact fin R' ku kw T hT
            · rw [zipL_len] at hi
              rw [h1.length, h2.length]
              omega
  · cases e
/-- xs[::-1], a list -/
def mRevL {T : Type} (f : ME T) : Env → T → Option (PyData × T) := fun ρ t => do
  let (r1, t1) ← f ρ t
  let x ← rd ρ r1
  match x with
  | .list xs => some (.list xs.reverse, t1)
  | _ => none
theorem pe_revLD {k : Nat} {p1 p2 p3 : Pos} (h : PE X a (den Γ fa)) (hK : X.K = Γ.K) : PE X (.Subscript a (.Slice none none (some (.UnaryOp .USub (.Constant (.int 1) k p1) p2)) p3) pos) (denL Γ (mRevL fa)) := pe_w (pe_revL h) fun σ H Q => by
  rintro ⟨F, ρ, t, d, t', R, e, q⟩
  obtain ⟨⟨r1, t1⟩, e1, e⟩ := bind_some e
  obtain ⟨x, ex, e⟩ := bind_some e
  split at e
  · rename_i xs
    cases e
    refine ⟨F, ρ, t, r1, _, R, e1, fun v F1 H1 R1 x1 k1 => ?_⟩
    obtain ⟨l, vs, rfl, h1, kk⟩ := R1.read k1 ex
    rw [hK]
    refine ⟨l, vs, rfl, .of h1, fun p hp => ?_⟩
    have x2 : Ext [] F1 H1 F1 (upd H1 p (.lst vs.reverse)) := Ext.new R1.ex hp
    have R2 := R1.ext0 x2
    have ow : Own Γ.K F1 (upd H1 p (.lst vs.reverse)) p (.list xs.reverse) := ⟨R1.ex.free hp, _, upd_same, kk.reverse⟩
    obtain ⟨a1, a2, a3, a4, a5⟩ := R1.fresh ow hp
    refine q p F1 _ R2 (x1.then x2.wide R2) ⟨ow, ?_, a3, a4, a5⟩
    cases z : H p with
    | none => rfl
    | some o =>
      by_cases hS : p ∈ Γ.S
      · exact absurd hS a4
      · have := x1.h p o hS z
        rw [hp] at this; cases this
  · cases e
/-- x, y, z = e1, e2, e3 -/
def mPar3 {T : Type} (i j l : Nat) (f : Env → T → Option (List Val × T)) : MS T := fun ρ t => match f ρ t with
  | some ([w1, w2, w3], t') => some (.nx (((ρ.set i (some w1)).set j (some w2)).set l (some w3)), t')
  | _ => none
variable {ga : Env → Γ.T → Option (List Val × Γ.T)} {c : Expr}
theorem w_par3 {i j l : Nat} (D : Ends) (σ : L2.St) (H : Hp) : denS Γ (mPar3 i j l ga) D σ H → tPar3 i j l (denVs Γ ga) D σ H := by
  rintro ⟨F, ρ, t, r, t', R, e, q⟩
  unfold mPar3 at e
  split at e
  · rename_i w1 w2 w3 t1 e1
    cases e
    refine ⟨F, ρ, t, _, _, R, e1, fun vs F1 H1 R1 x1 k1 => ?_⟩
    obtain ⟨v1, vs, rfl⟩ : ∃ v1 r, vs = v1 :: r := by cases k1 <;> exact ⟨_, _, rfl⟩
    have s1 := k1.step (i := i) R1
    obtain ⟨v2, vs, rfl⟩ : ∃ v1 r, vs = v1 :: r := by cases s1.2 <;> exact ⟨_, _, rfl⟩
    have s2 := s1.2.step (i := j) s1.1
    obtain ⟨v3, vs, rfl⟩ : ∃ v1 r, vs = v1 :: r := by cases s2.2 <;> exact ⟨_, _, rfl⟩
    have s3 := s2.2.step (i := l) s2.1
    obtain rfl : vs = [] := by cases s3.2; rfl
    exact ⟨v1, v2, v3, rfl, q _ F1 H1 s3.1 x1.f⟩
  · cases e
theorem ps_par3D {i j l : Nat} {x y z : Str} {px py pz pt : Pos} {kt k2 pt2} (hc : X.calm = true) (hN : X.N.Nodup) (hi : X.N[i]? = some x) (hj : X.N[j]? = some y) (hl : X.N[l]? = some z) (hij : i ≠ j) (hil : i ≠ l) (hjl : j ≠ l)
    (hx : X.env.scope.names.lookup x = some .local) (hy : X.env.scope.names.lookup y = some .local) (hz : X.env.scope.names.lookup z = some .local) (ha : PA X [a, b, c] (denVs Γ ga))
    (hw : swappedStores [.Tuple [.Name x px, .Name y py, .Name z pz] kt pt] (.Tuple [a, b, c] k2 pt2) X.env = pure (some [x, y, z]))
    (hs : swapsWithSole [.Tuple [.Name x px, .Name y py, .Name z pz] kt pt] (.Tuple [a, b, c] k2 pt2) pos.line X.env = pure false := by rfl) :
    PS X (.Assign [.Tuple [.Name x px, .Name y py, .Name z pz] kt pt] (.Tuple [a, b, c] k2 pt2) pos) (denS Γ (mPar3 i j l ga)) := ps_w (ps_par3 hc hN hi hj hl hij hil hjl hx hy hz ha hw hs) w_par3
end
end Mi
/-! What must hold: zip, reversed lists, three names. -/
namespace Mi
open PySem L2
section
variable {T : Type} {ρ : Env} {t : T} {f fa fb : ME T} {d : PyData} {i j l : Nat} {QL : List PyData → T → Prop} {Q : PyData → T → Prop} {N : Env → T → Prop} {R : PyData → T → Prop} {B C : Env → T → Prop}
/-- the value, still as it is -/
def Ew {T : Type} (f : ME T) (ρ : Env) (t : T) (Q : PyData → T → Prop) : Prop := ∃ r t' d, f ρ t = some (r, t') ∧ still ρ r = some d ∧ Q d t'
theorem w_f (h : Ef f ρ t Q) : Ew f ρ t Q := by
  obtain ⟨d, t', e, q⟩ := h; exact ⟨_, _, d, e, rfl, q⟩
theorem w_b (h : ρ[i]? = some (some (.bor d))) (q : Q d t) : Ew (mV i) ρ t Q := by
  cases hf : flat d with
  | true => exact ⟨.fro d, t, d, by unfold mV; rw [h]; dsimp only; rw [hf]; rfl, rfl, q⟩
  | false => exact ⟨.loan i, t, d, by unfold mV; rw [h]; dsimp only; rw [hf]; rfl, by unfold still; dsimp only; rw [h], q⟩
theorem i_zip (h : Ew fa ρ t fun x t1 => Ew fb ρ t1 fun y t2 => ∃ xs ys, ((x = .list xs ∧ y = .list ys) ∨ (x = .tuple xs ∧ y = .tuple ys)) ∧ QL (zipL xs ys) t2) : Eg (mZip fa fb) ρ t QL := by
  obtain ⟨r1, t1, x, e1, ex, r2, t2, y, e2, ey, xs, ys, hc, q⟩ := h
  refine ⟨_, t2, ?_, q⟩
  unfold mZip
  rw [e1]
  show (fb ρ t1 >>= _) = _
  rw [e2]
  show (still ρ r1 >>= _) = _
  rw [ex]
  show (still ρ r2 >>= _) = _
  rw [ey]
  rcases hc with ⟨rfl, rfl⟩ | ⟨rfl, rfl⟩ <;> rfl
theorem zz_L {xs ys : List PyData} {P : List PyData → List PyData → Prop} (q : P xs ys) : ∃ as bs, ((PyData.list xs = .list as ∧ PyData.list ys = .list bs) ∨ (PyData.list xs = .tuple as ∧ PyData.list ys = .tuple bs)) ∧ P as bs := ⟨xs, ys, .inl ⟨rfl, rfl⟩, q⟩
theorem zz_T {xs ys : List PyData} {P : List PyData → List PyData → Prop} (q : P xs ys) : ∃ as bs, ((PyData.tuple xs = .list as ∧ PyData.tuple ys = .list bs) ∨ (PyData.tuple xs = .tuple as ∧ PyData.tuple ys = .tuple bs)) ∧ P as bs := ⟨xs, ys, .inr ⟨rfl, rfl⟩, q⟩
theorem l_revL (h : Ed f ρ t fun x t1 => ∃ xs, x = .list xs ∧ Q (.list xs.reverse) t1) : Eg (mRevL f) ρ t Q := by
  obtain ⟨r1, t1, x, e1, ex, xs, rfl, q⟩ := h
  refine ⟨_, t1, ?_, q⟩
  unfold mRevL
  rw [e1]
  show (rd ρ r1 >>= _) = _
  rw [ex]
  rfl
theorem ex_lst {xs : List PyData} {P : List PyData → Prop} (q : P xs) : ∃ ys, PyData.list xs = .list ys ∧ P ys := ⟨xs, rfl, q⟩
theorem s_par3 {gs : Env → T → Option (List Val × T)} (h : Eg gs ρ t fun vs t1 => ∃ u v w, vs = [u, v, w] ∧ N (((ρ.set i (some u)).set j (some v)).set l (some w)) t1) : Es (mPar3 i j l gs) ρ t N R B C := by
  obtain ⟨_, t1, e, u, v, w, rfl, q⟩ := h
  refine ⟨.nx _, t1, ?_, q⟩
  unfold mPar3
  rw [e]
theorem ex_three {a b c : Val} {P : Val → Val → Val → Prop} (q : P a b c) : ∃ u v w, [a, b, c] = [u, v, w] ∧ P u v w := ⟨a, b, c, rfl, q⟩
end
end Mi
/-! repr of data where lists and dicts lie beside one another. -/
namespace Mi
open PySem L2
section
variable {X : Cx} {pins : List (Addr × Obj)} {σ : L2.St} {H F : Hp} {s : Shared}
mutual
theorem Dq.rpr (I : L2.Inv X pins σ H s) (sm : Same F H) : ∀ (d : PyData) (v : V) (u : Value), Dq X.K F v d → RelV v u → d.showable = true → d.shown.length ≤ sizeLine → ∃ bs, ReadAtMost s.heap d.depth bs ∧ ReprK X.prog X.w bs s.heap d.depth u d.shown
  | .none, _, _, h, r, hs, hz => by
    cases h
    cases r
    exact ReprK.of_reads Reads.none hs (fun _ => by simp) hz
  | .bool b, _, _, h, r, hs, hz => by
    cases h
    cases r
    exact ReprK.of_reads (Reads.bool b) hs (fun _ => by simp) hz
  | .int i, _, _, h, r, hs, hz => by
    cases h
    obtain ⟨t, rfl⟩ := r
    exact ReprK.of_reads (Reads.int i t) hs (fun _ => by simp) hz
  | .str x, _, _, h, r, hs, hz => by
    cases h
    obtain ⟨t, rfl⟩ := r
    exact ReprK.of_reads (Reads.str x t) hs (fun _ => by simp) hz
  | .list ds, _, _, h, r, hs, hz => by
    cases h with
    | lst hl ha =>
      cases r
      obtain ⟨its, rv, ⟨o, n, ho, hc, _, hd⟩, _⟩ := I.list (.of (sm _ _ hl))
      obtain ⟨as, hr, _⟩ := DqA.rds I sm ds _ its ha rv
      have hz' : (listText (PyData.shownAll ds)).length ≤ sizeLine := by simpa only [PyData.shown] using hz
      obtain ⟨bs, hb, hk⟩ := DqA.rpr I sm ds _ its ha rv (by simpa [PyData.showable] using hs) (fun t ht => Nat.le_trans (listText_mem_le ht) hz')
      have rr := Reads.list ho hc hd (by simpa using hr)
      have hna := not_mem_of_deeper rr (n := PyData.depthAll ds) (by simp only [PyData.depth]; omega) hb
      refine ⟨_ :: bs, ReadAtMost.cons rr (by simp only [PyData.depth]; omega) hb, ?_⟩
      simp only [PyData.depth, PyData.shown]
      cases its with
      | nil =>
        have : ds = [] := by
          cases ds with
          | nil => rfl
          | cons d ds => cases hr
        subst this
        simp only [PyData.shownAll, listText_nil]
        exact ReprK.listEmpty ho hc hd
      | cons x l => exact ReprK.list ho hc hd hna (by simpa using hk.length_eq) (fun i y e => hk.item i y (by simpa using e))
  | .tuple ds, _, _, h, r, hs, hz => by
    cases h with
    | tup hl ha =>
      cases r
      obtain ⟨its, rv, ⟨o, ho, hc, n, hd⟩, _⟩ := I.tuple (same_t sm hl)
      obtain ⟨as, hr, _⟩ := DqA.rds I sm ds _ its ha rv
      have hz' : (tupleText (PyData.shownAll ds)).length ≤ sizeLine := by simpa only [PyData.shown] using hz
      obtain ⟨bs, hb, hk⟩ := DqA.rpr I sm ds _ its ha rv (by simpa [PyData.showable] using hs) (fun t ht => Nat.le_trans (tupleText_mem_le ht) hz')
      have rr := Reads.tuple ho hc hd (by simpa using hr)
      have hna := not_mem_of_deeper rr (n := PyData.depthAll ds) (by simp only [PyData.depth]; omega) hb
      refine ⟨_ :: bs, ReadAtMost.cons rr (by simp only [PyData.depth]; omega) hb, ?_⟩
      simp only [PyData.depth, PyData.shown]
      exact ReprK.tuple ho hc hd hna (by simpa using hk)
  | .dict es, _, _, h, r, hs, hz => by
    cases h with
    | dct hl ha =>
      cases r
      obtain ⟨_, hne, vs, kv, o, ents, ep, ho, hex, hd, hk, hp, _⟩ := I.hok _ _ (sm _ _ hl)
      obtain ⟨as, bs, h1, h2, h3, _⟩ := DqK.rds I sm es _ vs ents.toList ha kv hp
      have hz' : (dictText (PyData.shownKv es)).length ≤ sizeLine := by simpa only [PyData.shown] using hz
      obtain ⟨hs1, hs2⟩ := PyData.showableKv_split es (by simpa [PyData.showable] using hs)
      obtain ⟨b1, hb1, k1⟩ := ReprAllK.of_readsAll (prog := X.prog) (w := X.w) h1 hs1 (fun _ => h3) (fun t ht => let ⟨p, hp, hl⟩ := PyData.shownKv_key_le es t ht; Nat.le_trans hl (Nat.le_trans (dictText_mem_le hp) hz'))
      obtain ⟨b2, hb2, k2⟩ := DqK.rpr I sm es _ vs ents.toList ha kv hp hs2 (fun t ht => let ⟨p, hp, hl⟩ := PyData.shownKv_val_le es t ht; Nat.le_trans hl (Nat.le_trans (dictText_mem_le hp) hz'))
      have rr := Reads.dict ho hex.1 hd h1 h2
      have hb : ReadAtMost s.heap (PyData.depthKv es) (b1 ++ b2) := (hb1.mono (PyData.depthAll_keys_le es)).append (hb2.mono (PyData.depthAll_vals_le es))
      have hna := not_mem_of_deeper rr (n := PyData.depthKv es) (by simp only [PyData.depth]; omega) hb
      refine ⟨_ :: (b1 ++ b2), ReadAtMost.cons rr (by simp only [PyData.depth]; omega) hb, ?_⟩
      simp only [PyData.depth, PyData.shown, PyData.shownKv_eq]
      exact ReprK.dict ho hex.1 hd hne hna (ReprEntriesK.of_two ents.toList _ _ (k1.more_le (fun b hb => List.mem_append_left _ hb) (PyData.depthAll_keys_le es)) (k2.more_le (fun b hb => List.mem_append_right _ hb) (PyData.depthAll_vals_le es)))
theorem DqA.rpr (I : L2.Inv X pins σ H s) (sm : Same F H) : ∀ (ds : List PyData) (vs : List V) (us : List Value), DqA X.K F vs ds → Vals vs us → PyData.showableAll ds = true → (∀ t ∈ PyData.shownAll ds, t.length ≤ sizeLine) → ∃ bs, ReadAtMost s.heap (PyData.depthAll ds) bs ∧ ReprAllK X.prog X.w bs s.heap (PyData.depthAll ds) us (PyData.shownAll ds)
  | [], _, _, h, r, _, _ => by
    cases h
    cases r
    exact ⟨[], (fun _ h => nomatch h), by simp only [PyData.shownAll]; exact .nil⟩
  | d :: ds, _, _, h, r, hs, hz => by
    cases h with
    | cons h1 h2 =>
      cases r with
      | cons r1 r2 =>
        have hs' : d.showable = true ∧ PyData.showableAll ds = true := by simpa [PyData.showableAll] using hs
        obtain ⟨b1, hb1, k1⟩ := Dq.rpr I sm d _ _ h1 r1 hs'.1 (hz _ (by simp only [PyData.shownAll]; exact List.mem_cons_self ..))
        obtain ⟨b2, hb2, k2⟩ := DqA.rpr I sm ds _ _ h2 r2 hs'.2 (fun t ht => hz t (by simp only [PyData.shownAll]; exact List.mem_cons_of_mem _ ht))
        refine ⟨b1 ++ b2, ?_, ?_⟩
        · simp only [PyData.depthAll]
          exact (hb1.mono (Nat.le_max_left _ _)).append (hb2.mono (Nat.le_max_right _ _))
        · simp only [PyData.depthAll, PyData.shownAll]
          exact .cons ((k1.more fun b hb => List.mem_append_left _ hb).level_le (Nat.le_max_left _ _)) (k2.more_le (fun b hb => List.mem_append_right _ hb) (Nat.le_max_right _ _))
theorem DqK.rpr (I : L2.Inv X pins σ H s) (sm : Same F H) : ∀ (es : List (PyData × PyData)) (kvs : List (Key × V)) (vs : List (Key × Value)) (ents : List DictEntry), DqK X.K F kvs es → KV kvs vs → Pairs (mixKind X.prog X.w) ents vs → PyData.showableAll (es.map (·.2)) = true → (∀ t ∈ PyData.shownAll (es.map (·.2)), t.length ≤ sizeLine) →
    ∃ bs, ReadAtMost s.heap (PyData.depthAll (es.map (·.2))) bs ∧ ReprAllK X.prog X.w bs s.heap (PyData.depthAll (es.map (·.2))) (ents.map (·.val)) (PyData.shownAll (es.map (·.2)))
  | [], _, _, _, h, r, p, _, _ => by
    cases h
    cases r
    cases p
    exact ⟨[], (fun _ h => nomatch h), by simp only [List.map_nil, PyData.shownAll]; exact .nil⟩
  | e :: es, _, _, _, h, r, p, hs, hz => by
    cases h with
    | cons h1 h2 =>
      cases r with
      | cons r1 r2 =>
        cases p with
        | cons p1 p2 p3 =>
          rw [List.map_cons] at hs hz ⊢
          have hs' := hs
          simp only [PyData.showableAll, Bool.and_eq_true] at hs'
          obtain ⟨b1, hb1, k1⟩ := Dq.rpr I sm _ _ _ h1 r1.2 hs'.1 (hz _ (by simp only [PyData.shownAll]; exact List.mem_cons_self ..))
          obtain ⟨b2, hb2, k2⟩ := DqK.rpr I sm es _ _ _ h2 r2 p3 hs'.2 (fun t ht => hz t (by simp only [PyData.shownAll]; exact List.mem_cons_of_mem _ ht))
          refine ⟨b1 ++ b2, ?_, ?_⟩
          · simp only [PyData.depthAll]
            exact (hb1.mono (Nat.le_max_left _ _)).append (hb2.mono (Nat.le_max_right _ _))
          · simp only [PyData.depthAll, PyData.shownAll, List.map_cons]
            exact .cons (p2 ▸ (k1.more fun b hb => List.mem_append_left _ hb).level_le (Nat.le_max_left _ _)) (k2.more_le (fun b hb => List.mem_append_right _ hb) (Nat.le_max_right _ _))
end
/-- how it shows itself -/
theorem Dq.shows (I : L2.Inv X pins σ H s) (sm : Same F H) {d : PyData} {v : V} {a : Addr} (h : Dq X.K F v d) (r : RelV v (.ref a)) (hs : d.showable = true) (hz : d.shown.length ≤ sizeLine) : ∃ T idr, ShowsBy X.prog X.w s.heap a d T idr := by
  cases h with
  | non => cases r
  | bl => cases r
  | int => obtain ⟨t, e⟩ := r; cases e
  | str => obtain ⟨t, e⟩ := r; cases e
  | lst hl ha =>
    rename_i _ ds
    cases r
    obtain ⟨its, rv, ⟨o, n, ho, hc, _, hd⟩, _⟩ := I.list (.of (sm _ _ hl))
    obtain ⟨as, hr, _⟩ := DqA.rds I sm ds _ its ha rv
    have hz' : (listText (PyData.shownAll ds)).length ≤ sizeLine := by simpa only [PyData.shown] using hz
    obtain ⟨bs, hb, hk⟩ := DqA.rpr I sm ds _ its ha rv (by simpa [PyData.showable] using hs) (fun t ht => Nat.le_trans (listText_mem_le ht) hz')
    have rr := Reads.list ho hc hd (by simpa using hr)
    have hna := not_mem_of_deeper rr (n := PyData.depthAll ds) (by simp only [PyData.depth]; omega) hb
    refine ⟨"list", "list.__repr__", PySem.F.slot_list_repr.toG, PySem.F.slot_list_str, PySem.F.slot_list_format, fun s hk0 => ⟨o, hk0 _ _ ho, hc⟩, fun A E s Q hg hu hk0 hQ => ?_⟩
    simp only [PyData.depth] at hu
    simp only [PyData.shown] at hQ
    cases its with
    | nil =>
      have : ds = [] := by
        cases ds with
        | nil => rfl
        | cons d ds => cases hr
      subst this
      simp only [PyData.shownAll, listText_nil] at hQ
      exact call_list_repr_empty ⟨o, hk0 _ _ ho, hc⟩ (hk0 _ _ ho) hd (hQ s.heap _ _ fun _ _ e => e)
    | cons x l => exact call_list_reprK ho hc hd hna (by simpa using hk.length_eq) (fun i y e => hk.item i y (by simpa using e)) hg (fun b _ => Clear.nil b) hu hk0 hQ hz'
  | tup hl ha =>
    rename_i _ ds
    cases r
    obtain ⟨its, rv, ⟨o, ho, hc, n, hd⟩, _⟩ := I.tuple (same_t sm hl)
    obtain ⟨as, hr, _⟩ := DqA.rds I sm ds _ its ha rv
    have hz' : (tupleText (PyData.shownAll ds)).length ≤ sizeLine := by simpa only [PyData.shown] using hz
    obtain ⟨bs, hb, hk⟩ := DqA.rpr I sm ds _ its ha rv (by simpa [PyData.showable] using hs) (fun t ht => Nat.le_trans (tupleText_mem_le ht) hz')
    have rr := Reads.tuple ho hc hd (by simpa using hr)
    have hna := not_mem_of_deeper rr (n := PyData.depthAll ds) (by simp only [PyData.depth]; omega) hb
    refine ⟨"tuple", "tuple.__repr__", PySem.F.slot_tuple_repr, PySem.F.slot_tuple_str, PySem.F.slot_tuple_format, fun s hk0 => ⟨o, hk0 _ _ ho, hc⟩, fun A E s Q hg hu hk0 hQ => ?_⟩
    simp only [PyData.depth] at hu
    simp only [PyData.shown] at hQ
    exact call_tuple_reprK ho hc hd hna (by simpa using hk) hg (fun b _ => Clear.nil b) hu hk0 hQ hz'
  | dct hl ha =>
    rename_i _ es
    cases r
    obtain ⟨_, hne, vs, kv, o, ents, ep, ho, hex, hd, hk, hp, _⟩ := I.hok _ _ (sm _ _ hl)
    obtain ⟨as, bs, h1, h2, h3, _⟩ := DqK.rds I sm es _ vs ents.toList ha kv hp
    have hz' : (dictText (PyData.shownKv es)).length ≤ sizeLine := by simpa only [PyData.shown] using hz
    obtain ⟨hs1, hs2⟩ := PyData.showableKv_split es (by simpa [PyData.showable] using hs)
    obtain ⟨b1, hb1, k1⟩ := ReprAllK.of_readsAll (prog := X.prog) (w := X.w) h1 hs1 (fun _ => h3) (fun t ht => let ⟨p, hp, hl⟩ := PyData.shownKv_key_le es t ht; Nat.le_trans hl (Nat.le_trans (dictText_mem_le hp) hz'))
    obtain ⟨b2, hb2, k2⟩ := DqK.rpr I sm es _ vs ents.toList ha kv hp hs2 (fun t ht => let ⟨p, hp, hl⟩ := PyData.shownKv_val_le es t ht; Nat.le_trans hl (Nat.le_trans (dictText_mem_le hp) hz'))
    have rr := Reads.dict ho hex.1 hd h1 h2
    have hb : ReadAtMost s.heap (PyData.depthKv es) (b1 ++ b2) := (hb1.mono (PyData.depthAll_keys_le es)).append (hb2.mono (PyData.depthAll_vals_le es))
    have hna := not_mem_of_deeper rr (n := PyData.depthKv es) (by simp only [PyData.depth]; omega) hb
    refine ⟨"dict", "dict.__repr__", PySem.F.slot_dict_repr, PySem.F.slot_dict_str, PySem.F.slot_dict_format, fun s hk0 => ⟨o, hk0 _ _ ho, hex.1⟩, fun A E s Q hg hu hk0 hQ => ?_⟩
    simp only [PyData.depth] at hu
    simp only [PyData.shown, PyData.shownKv_eq] at hQ
    exact call_dict_reprK ho hex.1 hd hne hna (ReprEntriesK.of_two ents.toList _ _
      (k1.more_le (fun b hb => List.mem_append_left _ hb) (PyData.depthAll_keys_le es)) (k2.more_le (fun b hb => List.mem_append_right _ hb) (PyData.depthAll_vals_le es))) hg (fun b _ => Clear.nil b) hu hk0 hQ (by rw [← PyData.shownKv_eq]; exact hz')
end
def reprE : List PyData → Option PyData
  | [d] => if d.showable = true ∧ d.shown.length ≤ sizeLine ∧ d.depth ≤ 60 then some (.str d.shown) else none
  | _ => none
theorem call_reprEE {X : Cx} (hg : X.A.guards = some []) (hu : X.A.units + 64 < cLine) : CallR X (.builtin "repr") (rC X.K reprE) := by
  rintro pins s σ H vs us Q I r ⟨F, xs, z, sm, dx, e, q⟩
  unfold reprE at e
  split at e
  · rename_i d
    split at e
    · rename_i hz
      cases e
      obtain ⟨v, rfl, h⟩ := f1 dx
      obtain ⟨u, rfl, ru⟩ := r.one
      have fin : Q (.str d.shown) H := q _ F H (Ext.refl sm) (.str _)
      cases d with
      | none => cases (show v = _ from h); cases ru; exact PySem.P.repr_of_none ⟨.str _, H, I.tok _, ⟨_, rfl⟩, fin⟩
      | bool b => cases (show v = _ from h); cases ru; exact PySem.P.repr_of_bool ⟨.str _, H, I.tok _, ⟨_, rfl⟩, fin⟩
      | int i =>
        cases (show v = _ from h)
        obtain ⟨t, rfl⟩ := ru
        exact PySem.P.repr_of_int (by simpa [PyData.showable] using hz.1) ⟨.str _, H, I.tok _, ⟨_, rfl⟩, fin⟩
      | str x =>
        cases (show v = _ from h)
        obtain ⟨t, rfl⟩ := ru
        exact PySem.P.repr_of_str ⟨.str _, H, I.tok _, ⟨_, rfl⟩, fin⟩ (by simpa [PyData.shown] using hz.2.1)
      | list ds =>
        obtain ⟨a, ws, rfl, h1, k⟩ := h
        cases ru
        obtain ⟨T, idr, S⟩ := Dq.shows (F := H) I (Same.refl H) (.lst h1 (k.mono sm)) rfl hz.1 hz.2.1
        exact call_repr_slot (by omega) (S.typeIs s fun _ _ e => e) S.slotRepr (S.call X.A.in1 _ s _ hg (by show X.A.units + 1 + _ < cLine; omega) (fun _ _ e => e) fun h' u tk hk => ⟨_, _, rfl, .str _, H, I.kept hk, ⟨_, rfl⟩, fin⟩)
      | tuple ds =>
        obtain ⟨a, ws, rfl, h1, k⟩ := h
        cases ru
        obtain ⟨T, idr, S⟩ := Dq.shows I sm (.tup h1 k) rfl hz.1 hz.2.1
        exact call_repr_slot (by omega) (S.typeIs s fun _ _ e => e) S.slotRepr (S.call X.A.in1 _ s _ hg (by show X.A.units + 1 + _ < cLine; omega) (fun _ _ e => e) fun h' u tk hk => ⟨_, _, rfl, .str _, H, I.kept hk, ⟨_, rfl⟩, fin⟩)
      | dict es =>
        obtain ⟨a, ws, rfl, h1, k⟩ := h
        cases ru
        obtain ⟨T, idr, S⟩ := Dq.shows (F := H) I (Same.refl H) (.dct h1 (k.mono sm)) rfl hz.1 hz.2.1
        exact call_repr_slot (by omega) (S.typeIs s fun _ _ e => e) S.slotRepr (S.call X.A.in1 _ s _ hg (by show X.A.units + 1 + _ < cLine; omega) (fun _ _ e => e) fun h' u tk hk => ⟨_, _, rfl, .str _, H, I.kept hk, ⟨_, rfl⟩, fin⟩)
    · cases e
  · cases e
end Mi
/-! get of a written table of texts and ints; all(..) of bools; an item of one's own list put anew. -/
namespace Mi
open PySem L2
def entI (e : DictEntry) : Option (Str × Int) := match e.key, e.val with
  | .str x _, .int i _ => some (x, i)
  | _, _ => none
/-- a written dict of the module: texts and ints -/
def KTab (K : PySem.W.Frag) (w : World) (mg : Str → Option Value) (nm : Str) (tab : List (Str × Int)) : Prop :=
  ∃ a es n, mg nm = some (.ref a) ∧ K.lookup a = some ⟨.type "dict", none, .dict es n, #[]⟩ ∧ (a == sysModules) = false ∧ PySem.W.KeysLit w.params es.toList ∧ es.toList.map entI = tab.map some
def tabV (tab : List (Str × Int)) (x : Str) : PyData := match tab.lookup x with
  | some i => .int i
  | none => .none
def mTabGet {T : Type} (tab : List (Str × Int)) (f : ME T) : ME T := fun ρ t => match f ρ t with
  | some (.fro (.str x), t') => some (.fro (tabV tab x), t')
  | _ => none
theorem ent_shape {e : DictEntry} {x : Str} {i : Int} (h : entI e = some (x, i)) : ∃ t t', e.key = .str x t ∧ e.val = .int i t' := by
  unfold entI at h
  split at h
  · rename_i y t j t' h1 h2
    cases h
    exact ⟨t, t', h1, h2⟩
  · cases h
theorem find_tab {x : Str} : ∀ {es : List DictEntry} {tab : List (Str × Int)}, es.map entI = tab.map some → (∃ i t', tab.lookup x = some i ∧ (es.find? (fun d => Value.isStrOf x d.key)).map (·.val) = some (.int i t')) ∨ (tab.lookup x = none ∧ (es.find? (fun d => Value.isStrOf x d.key)).map (·.val) = none)
  | [], [], _ => .inr ⟨rfl, rfl⟩
  | e :: es, (y, i) :: tab, h => by
    rw [List.map_cons, List.map_cons] at h
    injection h with h1 h2
    obtain ⟨t, t', k1, k2⟩ := ent_shape h1
    rw [List.lookup_cons, List.find?_cons, k1]
    have e1 : Value.isStrOf x (.str y t) = (y == x) := rfl
    rw [e1]
    by_cases hx : y = x
    · subst hx
      rw [show (y == y) = true from by simp]
      exact .inl ⟨i, t', rfl, by rw [← k2]; rfl⟩
    · rw [show (y == x) = false from by simpa using hx, show (x == y) = false from by simpa using Ne.symm hx]
      exact find_tab h2
  | [], _ :: _, h => by cases h
  | _ :: _, [], h => by cases h
section
variable {X : Cx} {Γ : Gm} {e : Expr} {p apos cpos : Pos} {ty : TE} {nm : Str} {tab : List (Str × Int)} {fe : ME Γ.T}
theorem pe_kget (T : KTab X.K X.w X.mg nm tab) (hg : Gl X nm) (he : PE X e ty) (m : M1 X (.Name nm p) "get" apos e cpos) (h2 : (nm == ("__debug__" : Str)) = false) : PE X (.Call (.Attribute (.Name nm p) "get" apos) [e] [] cpos) (fun σ H Q => ty σ H fun y H2 => ∃ x, y = .str x ∧ Q ((tab.lookup x).elim .non .int) H2) := by
  obtain ⟨a, es, n, hm, hl, low, hk, ht⟩ := T
  refine ⟨fun pins s σ H Q I h => ?_⟩
  refine wpAny_Call_method m.base m.few m.line PySem.F.plainAttrs_dict PySem.F.slot_dict_get PySem.F.type_dict_get (thn ((pe_glob (v := .ref a) hg hm rfl h2).run pins s σ H (fun x H1 => x = .ref a ∧ ty σ H1 fun y H2 => ∃ x, y = .str x ∧ Q ((tab.lookup x).elim .non .int) H2) I ⟨rfl, h⟩) fun u s1 ⟨x, H1, I1, rx, ex, q1⟩ => ?_)
  subst ex
  obtain rfl : u = Value.ref a := rx
  have hm1 := PySem.W.mapOf_K (prog := X.prog) (w := X.w) I1.kIn hl hk
  refine ⟨hm1.typeIs, fun b q => ?_, ?_⟩
  · cases q
    exact ⟨_, I1.kIn _ _ hl, rfl⟩
  rw [m.trees]
  refine Calls.callWith_builtin rfl (Calls.evalArgs_plain (Calls.spliced_cons (thn (he.run pins s1 σ H1 _ I1 q1) fun iv s2 ⟨y, H2, I2, ry, z, ez, q2⟩ => Calls.spliced_nil ?_)))
  subst ez
  obtain ⟨t, rfl⟩ := ry
  have hm2 := PySem.W.mapOf_K (prog := X.prog) (w := X.w) I2.kIn hl hk
  refine call_meetsIn PySem.F.slot_dict_get hm2.typeIs PySem.F.entry_dict_get (PySem.F.args_dict_get_2 _ _) (meets_dict_get (strKind X.prog X.w) a (strKind_is X.prog X.w z t) low) ⟨_, hm2, ⟨_, H2, I2.tok _, ?_, q2⟩⟩
  have ef : PySem.findBy Value.isStrOf es z = (es.toList.find? (fun d => Value.isStrOf z d.key)).map (·.val) := by
    obtain ⟨l⟩ := es
    unfold findBy
    rw [List.find?_toArray]
  rw [ef]
  rcases find_tab (x := z) ht with ⟨i, t', e1, e2⟩ | ⟨e1, e2⟩
  · rw [e1, e2]
    exact ⟨_, rfl⟩
  · rw [e1, e2]
    exact rfl
theorem pe_tabGet (T : KTab X.K X.w X.mg nm tab) (hg : Gl X nm) (he : PE X e (den Γ fe)) (m : M1 X (.Name nm p) "get" apos e cpos) (h2 : (nm == ("__debug__" : Str)) = false := by decide) : PE X (.Call (.Attribute (.Name nm p) "get" apos) [e] [] cpos) (den Γ (mTabGet tab fe)) := pe_w (pe_kget T hg he m h2) fun σ H Q => by
  rintro ⟨F, ρ, t, r, t', R, e, q⟩
  unfold mTabGet at e
  split at e
  · rename_i x t1 e1
    cases e
    refine ⟨F, ρ, t, _, _, R, e1, fun v F1 H1 R1 x1 k1 => ?_⟩
    cases (show Dq Γ.K F1 v (.str x) from k1)
    refine ⟨x, rfl, q _ F1 H1 R1 x1 ?_⟩
    show Dq Γ.K F1 _ (tabV tab x)
    unfold tabV
    cases tab.lookup x with
    | none => exact .non
    | some i => exact .int i
  · cases e
end
/-! ### all(..) -/
def boolsOf : List PyData → Option (List Bool)
  | [] => some []
  | .bool b :: ds => (boolsOf ds).map (b :: ·)
  | _ :: _ => none
theorem boolsOf_dq {K : PySem.W.Frag} {F : Hp} : ∀ {ds : List PyData} {vs : List V} {bs : List Bool}, DqA K F vs ds → boolsOf ds = some bs → vs = bs.map V.bl
  | [], _, _, h, e => by
    cases h
    cases e
    rfl
  | d :: ds, _, _, h, e => by
    cases h with
    | cons h1 h2 =>
      cases h1 with
      | bl b =>
        cases z : boolsOf ds with
        | none => simp only [boolsOf, z] at e; cases e
        | some cs =>
          simp only [boolsOf, z] at e
          cases e
          rw [boolsOf_dq h2 z]
          rfl
      | non => cases e
      | int => cases e
      | str => cases e
      | lst => cases e
      | tup => cases e
      | dct => cases e
def allD : List PyData → Option PyData
  | [.list xs] => (boolsOf xs).map fun bs => .bool (bs.all id)
  | _ => none
theorem call_allDD {X : Cx} (hc : X.calm = true) : CallR X (.builtin "all") (rC X.K allD) := by
  rintro pins s σ H vs us Q I r ⟨F, xs, z, sm, dx, e, q⟩
  unfold allD at e
  split at e
  · obtain ⟨v, rfl, l, ws, rfl, h1, k1⟩ := f1 dx
    cases z2 : boolsOf _ with
    | none => rw [z2] at e; cases e
    | some ns =>
      rw [z2] at e
      cases e
      have ew := boolsOf_dq k1 z2
      subst ew
      exact cr_all hc pins s σ H _ us Q I r ⟨l, ns, rfl, .of h1, q _ F H (Ext.refl sm) (.bl _)⟩
  · cases e
/-! ### xs[k] = d, xs one's own -/
theorem DqA.put {K : PySem.W.Frag} {F : Hp} {v : V} {d : PyData} (h : Dq K F v d) : ∀ {vs : List V} {ds : List PyData} (n : Nat), DqA K F vs ds → DqA K F (vs.set n v) (ds.set n d)
  | _, _, _, .nil => .nil
  | _, _, 0, .cons _ h2 => .cons h h2
  | _, _, n + 1, .cons h1 h2 => .cons h1 (DqA.put h n h2)
def mPutAt {T : Type} (i : Nat) (fk fa : ME T) : MS T := fun ρ t => match fa ρ t with
  | some (.fro d, t1) => match fk ρ t1 with
    | some (.fro (.int k), t2) => match ρ[i]? with
      | some (some (.own (.list ds))) => match ixN ds.length k with
        | some n => some (.nx (ρ.set i (some (.own (.list (ds.set n d))))), t2)
        | none => none
      | _ => none
    | _ => none
  | _ => none
section
variable {X : Cx} {Γ : Gm} {i : Nat} {o k a : Expr} {q2 pos : Pos} {fk fa : ME Γ.T}
theorem ps_putAtD (ho : PE X o (tVar i)) (hi : PE X k (den Γ fk)) (ha : PE X a (den Γ fa))
    (hs : swapsWithSole [.Subscript o k q2] a pos.line X.env = pure false := by rfl) (hw : swappedStores [.Subscript o k q2] a X.env = pure none := by rfl)
    (h1 : (assignEach [.Subscript o k q2] X.env).map (·.2) = [assign (.Subscript o k q2) X.env] := by rfl)
    (hx : ∀ v, assign (.Subscript o k q2) X.env v = (do
      let ov ← holding [v] (eval o X.env)
      let iv ← holding [v, ov] (eval k X.env)
      standAt q2
      holding [v, ov, iv] (setItem ov iv v)
      release [v, ov, iv] []) := by intro _; rfl) : PS X (.Assign [.Subscript o k q2] a pos) (denS Γ (mPutAt i fk fa)) :=
  ps_w (ps_asg ha (pg_sub ho hi set_list hx) hs hw h1) fun D σ H => by
    rintro ⟨F, ρ, t, r, t', R, e, q⟩
    unfold mPutAt at e
    split at e
    · rename_i d t1 e1
      split at e
      · rename_i z t2 e2
        split at e
        · rename_i ds e3
          split at e
          · rename_i n e4
            cases e
            refine ⟨F, ρ, t, _, _, R, e1, fun v F1 H1 R1 x1 k1 => ?_⟩
            obtain ⟨p1, h1, _⟩ := R1.slots i _ e3
            refine ⟨_, h1, F1, ρ, _, _, _, R1, e2, fun y F2 H2 R2 x2 k2 => ?_⟩
            cases (show Dq Γ.K F2 y (.int z) from k2)
            obtain ⟨p2, g1, ⟨g2, ws2, g3, g4⟩, _, _⟩ := R2.slots i _ e3
            rw [h1] at g1
            cases g1
            refine ⟨p1, ws2, z, n, rfl, rfl, g3, by rw [g4.length]; exact e4, ?_⟩
            exact q σ F2 _ (R2.turn e3 h1 ⟨g2, _, upd_same, DqA.put ((show Dq Γ.K F1 v d from k1).mono x2.f) n g4⟩) (x1.f.trans x2.f)
          · cases e
        · cases e
      · cases e
    · cases e
end
end Mi
/-! t[::-1], a tuple. -/
namespace Mi
open PySem PySem.Spec PyProof.Rows L2
section
variable {prog : Program} {w : World} {A : Around} {E : Value → Shared → Prop} {s : Shared}
theorem adjust_back (n : Nat) : Builtin.Slice.sliceAdjust none none (-1) (n : Int) = ((n : Int) - 1, -1) := by
  unfold Builtin.Slice.sliceAdjust
  simp
theorem places_back (n : Nat) : Builtin.Slice.slicePlaces ((n : Int) - 1) (-1) (-1) = n := by
  unfold Builtin.Slice.slicePlaces
  have h1 : ¬ ((-1 : Int) > 0) := by omega
  simp only [h1, if_false]
  split
  · have : ((n : Int) - 1 - -1 - 1) / (- -1) = (n : Int) - 1 := by
      rw [Int.neg_neg, Int.ediv_one]
      omega
    rw [this]
    omega
  · omega
theorem applied_back {sl : Addr} {vs : Value} {n : Nat} {Q : Int × Int × Nat → Shared → Prop} (hs : s.heap.IsSliceOf sl .none .none vs) (ps : IsPart vs (some (-1)))
    (h : Q ((n : Int) - 1, -1, n) s) : wpAny (model prog w) A (Builtin.Slice.sliceApplied (.ref sl) (pure (n : Int))) Q E s := by
  obtain ⟨os, hos, hcs, hds⟩ := id hs
  unfold Builtin.Slice.sliceApplied Builtin.Slice.sliceFields
  refine wpAny_bind (wpAny_bind (wpAny_field hos hds (x := .none) rfl (wpAny_bind (wpAny_field hos hds (x := .none) rfl (wpAny_bind (wpAny_field hos hds (x := vs) rfl (wpAny_pure ?_)))))))
  refine wpAny_bind (HT.slicePart_ ps ?_)
  show wpAny _ _ (if ((-1 : Int) == 0) = true then _ else _) _ _ s
  rw [if_neg (by decide)]
  refine wpAny_bind (slicePart_none (wpAny_bind (slicePart_none (wpAny_bind (wpAny_pure ?_)))))
  show wpAny _ _ (match Builtin.Slice.sliceAdjust none none (-1) (n : Int) with | (lo, hi) => pure (lo, (-1 : Int), Builtin.Slice.slicePlaces lo hi (-1))) _ _ s
  rw [adjust_back n]
  show wpAny _ _ (pure ((n : Int) - 1, (-1 : Int), Builtin.Slice.slicePlaces ((n : Int) - 1) (-1) (-1))) _ _ s
  rw [places_back]
  exact wpAny_pure h
theorem pick_back (xs : Array Value) : ((List.range xs.size).filterMap fun (m : Nat) => xs[(((xs.size : Nat) : Int) - 1 + (m : Int) * -1).toNat]?).toArray = xs.toList.reverse.toArray := by
  have e : (fun (m : Nat) => xs[(((xs.size : Nat) : Int) - 1 + (m : Int) * -1).toNat]?) = (fun k => xs[k]?) ∘ fun m => xs.size - 1 - m := by
    funext m
    show xs[_]? = xs[_]?
    have : (((xs.size : Nat) : Int) - 1 + (m : Int) * -1).toNat = xs.size - 1 - m := by omega
    rw [this]
  rw [e, ← List.filterMap_map, PySem.W.krv_range, List.filterMap_reverse, PySem.W.krv_all]
theorem getItem_tuple_back {t sl : Addr} {items : Array Value} {vs : Value} {Q : Value → Shared → Prop} (ht : IsTup s.heap t items) (hs : s.heap.IsSliceOf sl .none .none vs) (ps : IsPart vs (some (-1)))
    (h : Q (.ref s.heap.objs.size) { s with heap := s.heap.push { cls := .type "tuple", data := .seq items.toList.reverse.toArray } })
    (hsz : items.size ≤ sizeLine) : wpAny (model prog w) A (getItem (.ref t) (.ref sl)) Q E s := by
  have hok : sizeOk (.seq items.toList.reverse.toArray) := by
    show items.toList.reverse.toArray.size ≤ sizeLine
    rw [List.size_toArray, List.length_reverse, Array.length_toList]
    exact hsz
  obtain ⟨os, hos, hcs, hds⟩ := id hs
  have hTs : s.TypeIs (.ref sl) "slice" := ⟨os, hos, hcs⟩
  unfold getItem
  try with_reducible refine wpAny_holding ?_
  first | refine wpAny_bind (wpAny_pure ?_) | skip
  refine wpAny_bind (wpAny_sequenceKey ht.typeIs (by decide) ?_)
  refine wpAny_bind (wpAny_callSpecial?_slot (name := Str.ofString "__getitem__") ht.typeIs PyProof.Rows.slot_tuple_getitem
    (wpAny_call_entry PyProof.Rows.slot_tuple_getitem ht.typeIs entry_tuple_getitem ?_ (args_tuple_getitem _ _)))
  show wpAny _ _ (Builtin.Tuple.tupleItemsOf (.ref t) >>= _) _ _ s
  refine wpAny_bind (PyProof.Rows.tupleItemsOf_ ht ?_)
  refine wpAny_bind (wpAny_typeOf hTs ?_)
  rw [if_pos (by decide)]
  refine wpAny_bind (applied_back hs ps ?_)
  have hno : ¬ ((((items.size : Nat) : Int) - 1 == 0 && (-1 : Int) == 1 && items.size == items.size) = true) := by
    intro q
    rw [Bool.and_eq_true, Bool.and_eq_true] at q
    exact absurd q.1.2 (by decide)
  show wpAny _ _ (if (((items.size : Nat) : Int) - 1 == 0 && (-1 : Int) == 1 && items.size == items.size) = true then _ else _) _ _ s
  rw [if_neg hno, pick_back]
  first
    | exact wpAny_bind (m := Builtin.Tuple.tupleExact _) (wpAny_newObj_type (wpAny_pure ⟨_, rfl, wpAny_pure h⟩) hok)
    | exact wpAny_bind (m := Builtin.Tuple.tupleExact _) (wpAny_newObj_type (wpAny_bind (wpAny_pure (wpAny_pure ⟨_, rfl, wpAny_pure h⟩))) hok)
    | exact wpAny_bind (wpAny_bind (m := Builtin.Tuple.tupleExact _) (wpAny_newObj_type (wpAny_pure (wpAny_pure ⟨_, rfl, wpAny_pure h⟩)) hok))
    | exact wpAny_bind (wpAny_bind (m := Builtin.Tuple.tupleExact _) (wpAny_newObj_type (wpAny_pure ⟨_, rfl, wpAny_pure h⟩) hok))
end
section
variable {X : Cx} {Γ : Gm} {a : Expr} {fa : ME Γ.T} {pos : Pos}
def tRevT (K : PySem.W.Frag) (te : TE) : TE := fun σ H Q => te σ H fun x H1 => ∃ a xs, x = .ref a ∧ SqT K H1 a xs ∧ ∀ p, H1 p = none → Q (.ref p) (upd H1 p (.tup xs.reverse))
theorem pe_revT {e : Expr} {te : TE} {k : Nat} {p1 p2 p3 : Pos} (he : PE X e te) : PE X (.Subscript e (.Slice none none (some (.UnaryOp .USub (.Constant (.int 1) k p1) p2)) p3) pos) (tRevT X.K te) := by
  refine ⟨fun pins s σ H Q I h => ?_⟩
  refine Subscript_ (thn (he.run pins s σ H _ I h) fun v s1 ⟨x, H1, I1, r1, q1⟩ => ?_)
  obtain ⟨a, xs, ex, hx, q⟩ := q1
  subst ex
  cases r1
  have hst : PO X (some (.UnaryOp .USub (.Constant (.int 1) k p1) p2)) (tPart (tUn (rU fun i => .int (-i)) (tC (.int 1)))) := po_some (pe_un un_neg pe_int)
  refine wpAny_Slice (thn (po_none.run pins s1 σ H1 (fun o H2 => o = none ∧ H2 = H1) I1 ⟨rfl, rfl⟩) fun vl s2 ⟨l, H2, I2, pl, el, e2⟩ => ?_)
  subst el e2
  refine thn (po_none.run pins s2 σ H2 (fun o H3 => o = none ∧ H3 = H2) I2 ⟨rfl, rfl⟩) fun vu s3 ⟨u, H3, I3, pu, eu, e3⟩ => ?_
  subst eu e3
  refine thn (hst.run pins s3 σ H3 (fun o H4 => o = some (-1) ∧ H4 = H3) I3 ⟨1, rfl, -1, rfl, rfl, rfl⟩) fun vs s4 ⟨o, H4, I4, ps, eo, e4⟩ => ?_
  subst eo e4
  cases pl
  cases pu
  have I5 : L2.Inv X pins σ H4 { s4 with heap := s4.heap.push { cls := .type "slice", data := .fields #[.none, .none, vs] } } := I4.kept (t' := s4.toks) fun b ob q => Heap.get?_push_of_some _ q
  obtain ⟨its, r, ht, hz⟩ := I5.tuple hx
  have hlen := r.length
  show wpAny (model X.prog X.w) X.A (subscriptTail e (.Slice none none (some (.UnaryOp .USub (.Constant (.int 1) k p1) p2)) p3) (.ref a) (.ref s4.heap.objs.size)) (EP X pins σ Q) X.xe { s4 with heap := s4.heap.push { cls := .type "slice", data := .fields #[.none, .none, vs] } }
  refine tail_any (ops := [.ref a, .ref s4.heap.objs.size]) ht.typeIs (PyProof.Rows.slot_tuple_getitem.lookup) ?_ (by with_unfolding_all rfl)
  refine getItem_tuple_back ht (Heap.IsSliceOf.new _ .none .none vs) ps ?_ (by rw [List.size_toArray]; omega)
  refine ⟨.ref _, _, I5.laid (t' := s4.toks) (o := .tup xs.reverse) (fun b ob q => Heap.get?_push_of_some _ q) (Nat.le_refl _) ?_, rfl, q _ (I5.hok.fresh (Nat.le_refl _))⟩
  exact ⟨by rw [List.length_reverse]; exact hz, _, r.reverse, IsTup.new _ _⟩
def mRevT {T : Type} (f : ME T) : ME T := fun ρ t => do
  let (r1, t1) ← f ρ t
  let x ← rd ρ r1
  match x with
  | .tuple xs => some (.fro (.tuple xs.reverse), t1)
  | _ => none
theorem pe_revTD {k : Nat} {p1 p2 p3 : Pos} (h : PE X a (den Γ fa)) (hK : X.K = Γ.K) : PE X (.Subscript a (.Slice none none (some (.UnaryOp .USub (.Constant (.int 1) k p1) p2)) p3) pos) (den Γ (mRevT fa)) := pe_w (pe_revT h) fun σ H Q => by
  rintro ⟨F, ρ, t, r, t', R, e, q⟩
  obtain ⟨⟨r1, t1⟩, e1, e⟩ := bind_some e
  obtain ⟨x, ex, e⟩ := bind_some e
  split at e
  · rename_i xs
    cases e
    refine ⟨F, ρ, t, r1, _, R, e1, fun v F1 H1 R1 x1 k1 => ?_⟩
    obtain ⟨l, vs, rfl, h1, kk⟩ := R1.read k1 ex
    rw [hK]
    refine ⟨l, vs, rfl, same_t R1.ex h1, fun p hp => ?_⟩
    have x2 : Ext [] F1 H1 (upd F1 p (.tup vs.reverse)) (upd H1 p (.tup vs.reverse)) := Ext.keep R1.ex hp
    exact q _ _ _ (R1.ext0 x2) (x1.then x2.wide (R1.ext0 x2)) (.tup (.of upd_same) (kk.reverse.mono x2.f))
  · cases e
end
end Mi
/-! dict(enumerate(t)), t a tuple. -/
namespace PySem
section
variable {prog : Program} {w : World} {A : Around} {E : Value → Shared → Prop} {s : Shared}
/-- the next pair, while the pair that was given out before is still there; over whatever draws -/
theorem enum_held_next {e it T : Addr} {fp : List Addr} {n i : Nat} {P : Nat → Value → Prop} {St : Nat → Heap → Prop} {old : Value} {f : Bool} {oT : Obj} {Q : Value → Shared → Prop}
    (D : Draws prog w A it fp n P St) (he : IsEnumHeld s.heap e it i old T f) (hT : s.heap.get? T = some oT) (hTe : T ≠ e) (hTi : T ≠ it) (hst : St i s.heap) (hlt : i < n) (hne : e ≠ it) (hef : e ∉ fp)
    (hQ : ∀ x h' tk, P i x → IsEnumHeld h' e it ((i : Int) + 1) old T true → St (i + 1) h' →
      h'.get? s.heap.objs.size = some { cls := .type "tuple", data := .seq #[.int i tk, x] } → h'.objs.size = s.heap.objs.size + 1 →
      (∀ b o, b ≠ e → b ≠ it → s.heap.get? b = some o → h'.get? b = some o) → Q (.ref s.heap.objs.size) { s with heap := h', toks := tk + 1 }) :
    wpAny (model prog w) A (Builtin.«enumerate.__next__» ⟨[.ref e], []⟩) (fun fin s' => ∃ v, fin = .done (.ret v) ∧ Q v s') E s := by
  obtain ⟨hp, g, d, tk₀, os⟩ := s
  show wpAny _ _ (field (.ref e) 2 >>= _) _ _ _
  refine wpAny_bind (wpAny_field he rfl (x := .ref it) rfl ?_)
  refine wpAny_bind (D.item i _ _ _ hlt hst fun x h₁ tk hPx hit₁ hs₁ => ?_)
  replace hs₁ : Heap.SameBut it hp h₁ := hs₁
  have he₁ : IsEnumHeld h₁ e it i old T f := (hs₁.2 e hne).trans he
  show wpAny _ _ (field (.ref e) 3 >>= _) _ _ ⟨h₁, g, d, tk, os⟩
  refine wpAny_bind (wpAny_field he₁ rfl (x := rawInt i) rfl ?_)
  show wpAny _ _ (field (.ref e) 4 >>= _) _ _ ⟨h₁, g, d, tk, os⟩
  refine wpAny_bind (wpAny_field he₁ rfl (x := .none) rfl ?_)
  show wpAny _ _ (mkInt i >>= _) _ _ ⟨h₁, g, d, tk, os⟩
  refine wpAny_bind (wpAny_mkInt ?_)
  show wpAny _ _ (setField (.ref e) 3 (rawInt ((i : Int) + 1)) >>= _) _ _ ⟨h₁, g, d, tk + 1, os⟩
  refine wpAny_bind (wpAny_setField_rec he₁ (by simp) fun h₂ he₂ hs₂ => ?_)
  replace hs₂ : Heap.SameBut e h₁ h₂ := hs₂
  replace he₂ : IsEnumHeld h₂ e it ((i : Int) + 1) old T f := he₂
  show wpAny _ _ (setField (.ref e) 4 .none >>= _) _ _ ⟨h₂, g, d, tk + 1, os⟩
  refine wpAny_bind (wpAny_setField_rec he₂ (by simp) fun h₃ he₃ hs₃ => ?_)
  replace hs₃ : Heap.SameBut e h₂ h₃ := hs₃
  replace he₃ : IsEnumHeld h₃ e it ((i : Int) + 1) old T f := he₃
  show wpAny _ _ (newTuple [.int i tk, x] >>= _) _ _ ⟨h₃, g, d, tk + 1, os⟩
  refine wpAny_bind (wpAny_newTuple ?_)
  have he₄ : IsEnumHeld (h₃.push { cls := .type "tuple", data := .seq #[.int i tk, x] }) e it ((i : Int) + 1) old T f := Heap.get?_push_of_some _ he₃
  generalize hh₄ : h₃.push { cls := .type "tuple", data := .seq #[.int i tk, x] } = h₄ at he₄
  have hsz : h₃.objs.size = hp.objs.size := by rw [hs₃.1, hs₂.1, hs₁.1]
  have hel : e < hp.objs.size := Heap.lt_size he
  have ht₄ : h₄.get? hp.objs.size = some { cls := .type "tuple", data := .seq #[.int i tk, x] } := by rw [← hh₄, ← hsz]; exact Heap.get?_push_size _ rfl
  have hz₄ : h₄.objs.size = hp.objs.size + 1 := by rw [← hh₄, Heap.size_push, hsz]
  have hk₄ : ∀ b o, b ≠ e → b ≠ it → hp.get? b = some o → h₄.get? b = some o := fun b o hbe hbi hb => by
    rw [← hh₄]; exact Heap.get?_push_of_some _ (hs₃.extBut b o hbe (hs₂.extBut b o hbe (hs₁.extBut b o hbi hb)))
  have hit₄ : St (i + 1) h₄ := D.frame _ _ _ hit₁ fun b hb o y => by
    have hbe : b ≠ e := fun q => hef (q ▸ hb)
    rw [← hh₄]; exact Heap.get?_push_of_some _ (hs₃.extBut b o hbe (hs₂.extBut b o hbe y))
  show wpAny _ _ (Builtin.SmallTypes.ownedTupleIsFree (.ref e) >>= _) _ _ ⟨h₄, g, d, tk + 1, os⟩
  rw [hsz]
  clear hh₄ he₃ hs₃ he₂ hs₂ he₁ hs₁ hit₁ hsz h₃ h₂ h₁
  refine wpAny_bind (wpAny_tupleHeld_enum (s := ⟨h₄, g, d, tk + 1, os⟩) he₄ (hk₄ T oT hTe hTi hT) fun h₅ he₅ hs₅ => ?_)
  replace hs₅ : Heap.SameBut e h₄ h₅ := hs₅
  simp only [Bool.false_eq_true, if_false]
  refine wpAny_pure ⟨_, rfl, hQ x h₅ tk hPx he₅ (D.frame _ _ _ hit₄ fun b hb o y => hs₅.extBut b o (fun q => hef (q ▸ hb)) y) (hs₅.extBut _ _ (Nat.ne_of_gt hel) ht₄) ?_ fun b o hbe hbi hb => hs₅.extBut b o hbe (hk₄ b o hbe hbi hb)⟩
  show h₅.objs.size = hp.objs.size + 1
  rw [hs₅.1, hz₄]
theorem enum_held_item {e it T : Addr} {fp : List Addr} {n i : Nat} {P : Nat → Value → Prop} {St : Nat → Heap → Prop} {old : Value} {f : Bool} {oT : Obj} {Q : Option Value → Shared → Prop}
    (D : Draws prog w A.in1 it fp n P St) (he : IsEnumHeld s.heap e it i old T f) (hT : s.heap.get? T = some oT) (hTe : T ≠ e) (hTi : T ≠ it) (hst : St i s.heap) (hlt : i < n) (hne : e ≠ it) (hef : e ∉ fp)
    (hQ : ∀ x h' tk, P i x → IsEnumHeld h' e it ((i : Int) + 1) old T true → St (i + 1) h' →
      h'.get? s.heap.objs.size = some { cls := .type "tuple", data := .seq #[.int i tk, x] } → h'.objs.size = s.heap.objs.size + 1 →
      (∀ b o, b ≠ e → b ≠ it → s.heap.get? b = some o → h'.get? b = some o) → Q (some (.ref s.heap.objs.size)) { s with heap := h', toks := tk + 1 }) :
    wpAny (model prog w) A (pyNext (.ref e)) Q E s := by
  have hTy : s.TypeIs (.ref e) "enumerate" := ⟨_, he, rfl⟩
  unfold pyNext
  exact wpAny_bind (wpAny_attempt (wpAny_callSpecial?_slot (name := Str.ofString "__next__") hTy F.slot_enumerate_next
    (wpAny_call_entry F.slot_enumerate_next hTy F.entry_enumerate_next
      (enum_held_next D he hT hTe hTi hst hlt hne hef fun x h' tk a1 a2 a3 a4 a5 a6 => wpAny_pure (hQ x h' tk a1 a2 a3 a4 a5 a6)) (F.args_enumerate_next_1 _))))
theorem enum_held_end {e it T : Addr} {fp : List Addr} {n : Nat} {P : Nat → Value → Prop} {St : Nat → Heap → Prop} {i : Int} {old : Value} {f : Bool} {Q : Option Value → Shared → Prop}
    (D : Draws prog w A.in1 it fp n P St) (he : IsEnumHeld s.heap e it i old T f) (hst : St n s.heap)
    (hQ : ∀ h', Heap.ExtBut it s.heap h' → Q none { s with heap := h' }) : wpAny (model prog w) A (pyNext (.ref e)) Q E s := by
  have hTy : s.TypeIs (.ref e) "enumerate" := ⟨_, he, rfl⟩
  unfold pyNext
  refine wpAny_bind (wpAny_attempt (wpAny_callSpecial?_slot (name := Str.ofString "__next__") hTy F.slot_enumerate_next
    (wpAny_call_entry F.slot_enumerate_next hTy F.entry_enumerate_next ?_ (F.args_enumerate_next_1 _))))
  show wpAny _ _ (field (.ref e) 2 >>= _) _ _ _
  refine wpAny_bind (wpAny_field he rfl (x := .ref it) rfl ?_)
  refine wpAny_bind (D.done _ _ _ hst fun h' x hx' he' => ?_)
  obtain ⟨o, ho, hc⟩ := he'
  refine wpAny_bind (wpAny_isInstance (T := "StopIteration") (b := true) ⟨o, ho, hc⟩ isSubtype_stop ?_)
  exact wpAny_pure (hQ _ hx')
end
/-- enumerate(t), t a tuple, as what dict(..) is made of -/
theorem PairArg.enumT {prog : Program} {w : World} (e it a : Addr) (hei : e ≠ it) (hae : a ≠ e) (hai : a ≠ it) (items : Array Value) :
    PairArg prog w "enumerate" e [e, it, a] [e, it] items.size (fun i k v => (∃ t, k = .int i t) ∧ items[i]? = some v)
      (fun h => (∃ old, IsEnum h e it 0 old) ∧ h.IsTupleIter it a 0 ∧ h.IsTuple a items) where
  type := fun s ok => let ⟨⟨_, he⟩, _⟩ := ok; ⟨_, he, rfl⟩
  notDict := by decide
  keep := fun h h' ok hk => by
    obtain ⟨⟨old, he⟩, hit, hl⟩ := ok
    exact ⟨⟨old, hk _ _ he⟩, hit.at fun o x => hk _ o x, hl.at fun o x => hk _ o x⟩
  there := fun h ok b hb => by
    obtain ⟨⟨old, he⟩, ⟨o1, h1, _⟩, ⟨o2, h2, _⟩⟩ := ok
    simp only [List.mem_cons, List.not_mem_nil, or_false] at hb
    rcases hb with rfl | rfl | rfl
    all_goals first | exact ⟨_, he⟩ | exact ⟨_, h1⟩ | exact ⟨_, h2⟩
  sub := fun b hb => by simp at hb ⊢; rcases hb with rfl | rfl <;> simp
  noKeys := fun A s Q E hA ok h => let ⟨⟨_, he⟩, _⟩ := ok; getAttrOr_miss_enumerate he rfl rfl rfl enumerate_no_keys (by decide +kernel) hA h
  iter := fun A s d Q E hA ok hd hdf h => by
    obtain ⟨⟨old, he⟩, hit, hl⟩ := ok
    simp only [List.mem_cons, List.not_mem_nil, or_false, not_or] at hdf
    obtain ⟨de, dit, dl⟩ := hdf
    have D := Draws.tuple (prog := prog) (w := w) (A := A.in1) hA it a hai items
    have hef : e ∉ [it, a] := by simp [hei, hae.symm]
    refine wpAny_pyIter_enum he (h e [e, it] (fun i h => h.IsTupleIter it a i ∧ h.IsTuple a items ∧ ((∃ old, IsEnum h e it i old) ∨ ∃ old T f oT, IsEnumHeld h e it i old T f ∧ h.get? T = some oT ∧ T ≠ e ∧ T ≠ it ∧ T ≠ d)) s.heap s.toks ?_
      ⟨hit, hl, .inl ⟨old, he⟩⟩ (fun _ _ e => e) fun b hb => .inl hb)
    exact {
      off := fun hm => by
        simp only [List.mem_cons, List.not_mem_nil, or_false] at hm
        rcases hm with x | x
        · exact de x
        · exact dit x
      frame := fun i h₁ h₂ st hk => by
        obtain ⟨hit, hl, he⟩ := st
        refine ⟨hit.at fun o x => hk _ o (Ne.symm dit) x, hl.at fun o x => hk _ o (Ne.symm dl) x, ?_⟩
        rcases he with ⟨old, he⟩ | ⟨old, T, f, oT, he, hT, r1, r2, r3⟩
        · exact .inl ⟨old, hk _ _ (Ne.symm de) he⟩
        · exact .inr ⟨old, T, f, oT, hk _ _ (Ne.symm de) he, hk _ _ r3 hT, r1, r2, r3⟩
      item := fun i s₁ Q₁ E₁ hi st hds hQ => by
        obtain ⟨hit, hl, he⟩ := st
        have ec : ((i + 1 : Nat) : Int) = (i : Int) + 1 := by omega
        have nit : s₁.heap.objs.size ≠ it := let ⟨_, x, _⟩ := hit; Nat.ne_of_gt (Heap.lt_size x)
        rcases he with ⟨old, he⟩ | ⟨old, T, f, oT, he, hT, r1, r2, r3⟩
        · refine wpAny_pyNext_enum_itemC D he ⟨hit, hl⟩ hi hei hef fun x h' tk hx ho st' hT hsz hk => ?_
          exact hQ s₁.heap.objs.size _ _ h' _ ⟨⟨_, rfl⟩, hx⟩ (.inl ⟨_, hT, rfl, _, rfl⟩)
            ⟨st'.1, st'.2, .inr ⟨_, s₁.heap.objs.size, false, _, (by rw [ec]; exact ho), hT, Nat.ne_of_gt (Heap.lt_size he), nit, Nat.ne_of_gt hds⟩⟩
            fun b o hb x => hk b o (fun y => hb (by simp [y])) (fun y => hb (by simp [y])) x
        · refine enum_held_item D he hT r1 r2 ⟨hit, hl⟩ hi hei hef fun x h' tk hx ho st' hT' hsz hk => ?_
          exact hQ s₁.heap.objs.size _ _ h' _ ⟨⟨_, rfl⟩, hx⟩ (.inl ⟨_, hT', rfl, _, rfl⟩)
            ⟨st'.1, st'.2, .inr ⟨old, T, true, oT, (by rw [ec]; exact ho), hk _ _ r1 r2 hT, r1, r2, r3⟩⟩
            fun b o hb x => hk b o (fun y => hb (by simp [y])) (fun y => hb (by simp [y])) x
      done := fun s₁ Q₁ E₁ st hQ => by
        obtain ⟨hit, hl, he⟩ := st
        rcases he with ⟨old, he⟩ | ⟨old, T, f, oT, he, hT, r1, r2, r3⟩
        · exact wpAny_pyNext_enum_endD D he ⟨hit, hl⟩ fun h' hk => hQ h' s₁.toks fun b o hb x => hk b o (fun y => hb (by simp [y])) x
        · exact enum_held_end D he ⟨hit, hl⟩ fun h' hk => hQ h' s₁.toks fun b o hb x => hk b o (fun y => hb (by simp [y])) x }
end PySem

namespace Mi
open PySem PySem.Spec PyProof.Rows L2
/-- (0, x), (1, y), .. as entries -/
def numV (xs : List V) (n : Nat) : List (Key × V) := match xs with
  | [] => []
  | x :: r => (.inl (n : Int), x) :: numV r (n + 1)
def numU (xs : List Value) (n : Nat) : List (Key × Value) := match xs with
  | [] => []
  | x :: r => (.inl (n : Int), x) :: numU r (n + 1)
def numD (xs : List PyData) (n : Nat) : List (PyData × PyData) := match xs with
  | [] => []
  | x :: r => (.int (n : Int), x) :: numD r (n + 1)
theorem numV_len : ∀ (xs : List V) (n : Nat), (numV xs n).length = xs.length
  | [], _ => rfl
  | x :: r, n => by rw [numV, List.length_cons, List.length_cons, numV_len r (n + 1)]
theorem numU_len : ∀ (xs : List Value) (n : Nat), (numU xs n).length = xs.length
  | [], _ => rfl
  | x :: r, n => by rw [numU, List.length_cons, List.length_cons, numU_len r (n + 1)]
theorem numU_at : ∀ (xs : List Value) (n i : Nat) (v : Value), xs[i]? = some v → (numU xs n)[i]? = some (.inl ((n + i : Nat) : Int), v)
  | [], _, _, _, h => by simp at h
  | x :: r, n, 0, v, h => by
    simp only [List.getElem?_cons_zero, Option.some.injEq] at h
    subst h
    rfl
  | x :: r, n, i + 1, v, h => by
    rw [numU, List.getElem?_cons_succ]
    rw [List.getElem?_cons_succ] at h
    have := numU_at r (n + 1) i v h
    rw [this]
    congr 3
    omega
theorem num_kv : ∀ {xs : List V} {us : List Value} (n : Nat), Vals xs us → KV (numV xs n) (numU us n)
  | _, _, _, .nil => .nil
  | _, _, n, .cons h t => .cons ⟨rfl, h⟩ (num_kv (n + 1) t)
theorem num_dq {K : PySem.W.Frag} {F : Hp} : ∀ {vs : List V} {ds : List PyData} (n : Nat), DqA K F vs ds → DqK K F (numV vs n) (numD ds n)
  | _, _, _, .nil => .nil
  | _, _, n, .cons h t => .cons (k := .inl (n : Int)) h (num_dq (n + 1) t)
theorem merge_num : ∀ (xs : List V) (n : Nat) (acc : List (Key × V)), (∀ kv ∈ acc, ∃ m : Nat, kv.1 = .inl (m : Int) ∧ m < n) → mergeK acc (numV xs n) = acc ++ numV xs n
  | [], n, acc, _ => (List.append_nil _).symm
  | x :: r, n, acc, h => by
    have hn : valV acc (.inl (n : Int)) = none := by
      unfold valV
      rw [Option.map_eq_none_iff, List.find?_eq_none]
      intro kv m
      obtain ⟨k, e, hk⟩ := h kv m
      simp only [decide_eq_true_eq]
      rw [e]
      intro z
      injection z with z
      omega
    show mergeK (putK acc (.inl (n : Int)) x) (numV r (n + 1)) = _
    rw [putK_new x hn, merge_num r (n + 1) _ ?_, numV, List.append_assoc]
    · rfl
    · intro kv m
      rcases List.mem_append.mp m with m | m
      · obtain ⟨k, e, hk⟩ := h kv m
        exact ⟨k, e, by omega⟩
      · rw [List.mem_singleton.mp m]
        exact ⟨n, rfl, by omega⟩
def tDEn (K : PySem.W.Frag) (te : TE) : TE := fun σ H Q => te σ H fun v H1 => ∃ (a : Addr) (xs : List V), v = .ref a ∧ SqT K H1 a xs ∧ ∀ p, H1 p = none → Q (.ref p) (upd H1 p (.dK (numV xs 0)))
section
variable {X : Cx} {Γ : Gm} {fa : ME Γ.T}
theorem pe_dictEnum {e : Expr} {te : TE} {p p2 pos pos2 : Pos} (hc : X.calm = true) (hg : Gl X "dict") (hm : X.mg "dict" = none) (hg2 : Gl X "enumerate") (hm2 : X.mg "enumerate" = none) (he : PE X e te)
    (hs : starEach [e] X.env = (false, eval e X.env) :: starEach [] X.env := by rfl)
    (hs2 : starEach [.Call (.Name "enumerate" p2) [e] [] pos2] X.env = (false, eval (.Call (.Name "enumerate" p2) [e] [] pos2) X.env) :: starEach [] X.env := by rfl) :
    PE X (.Call (.Name "dict" p) [.Call (.Name "enumerate" p2) [e] [] pos2] [] pos) (tDEn X.K te) := by
  refine ⟨fun pins s σ H Q I h => ?_⟩
  refine Call_ (ld_blt I hg hm boot_dict (PyProof.Rows.callWith_type1 (args_cons (Call_ (ld_blt I hg2 hm2 PyProof.Rows.boot_enumerate (PyProof.Rows.callWith_type1 (args_cons (thn (he.run pins s σ H _ I h) fun u s1 ⟨v, H1, I1, r1, q1⟩ => args_nil ?_) hs) hs rfl))) hs2) hs2 rfl))
  obtain ⟨a, xs, ev, hx, q⟩ := q1
  subst ev
  obtain rfl : u = Value.ref a := r1
  obtain ⟨its, rv, pt, hz⟩ := I1.tuple hx
  have tT : s1.heap.IsTuple a its.toArray := pt
  refine enum_call (begins_tuple a its.toArray) tT fun h' he' hi hk => args_nil ?_
  have hal : a < s1.heap.objs.size := let ⟨_, q, _⟩ := tT; Heap.lt_size q
  have hn : its.toArray.size ≤ sizeLine := by rw [List.size_toArray, ← rv.length]; exact hz
  have hsz : s1.heap.objs.size + 1 < h'.objs.size := Heap.lt_size he'
  refine PySem.call_dict_pairs (s := { s1 with heap := h' }) (knd := mixKind X.prog X.w) (kvs := numU its 0) (PairArg.enumT (s1.heap.objs.size + 1) s1.heap.objs.size a (Nat.succ_ne_self _) (Nat.ne_of_lt (Nat.lt_succ_of_lt hal)) (Nat.ne_of_lt hal) its.toArray) (I1.ok.hd hc)
    ⟨⟨.none, he'⟩, ⟨_, hi, rfl, rfl⟩, tT.at fun o z => hk _ o z⟩ ⟨by rw [numU_len, List.size_toArray], ?_⟩ hn fun h'' tk hd k => ?_
  · rintro i key v ⟨⟨t, rfl⟩, hv⟩
    have := numU_at its 0 i v (by simpa using hv)
    rw [Nat.zero_add] at this
    exact ⟨_, this, mixKind_int X.prog X.w _ t⟩
  have keep : ∀ b u, s1.heap.get? b = some u → h''.get? b = some u := fun b u z => k b u (by
    have := Heap.lt_size z
    simp only [List.mem_cons, List.not_mem_nil, or_false, not_or]
    exact ⟨Nat.ne_of_lt (Nat.lt_succ_of_lt this), Nat.ne_of_lt this⟩) (hk b u z)
  have big : (h'.objs.size == sysModules) = false := beq_eq_false_iff_ne.mpr (Nat.ne_of_gt (Nat.lt_of_lt_of_le I1.big (Nat.le_of_lt (Nat.lt_of_succ_lt hsz))))
  have em := merge_num xs 0 [] (by simp)
  rw [List.nil_append] at em
  have rel : KV (numV xs 0) (merged [] (numU its 0)) := by
    have := KV.merge (num_kv 0 rv) (.nil : KV [] [])
    rw [em] at this
    exact this
  exact ⟨.ref h'.objs.size, _, I1.laid (t' := tk) keep (by omega) (show ObjOk X.prog X.w _ _ _ (.dK (numV xs 0)) from ⟨by rw [numV_len]; exact hz, big, _, rel, hd⟩), rfl, q _ (I1.hok.fresh (by omega))⟩
def mDEn {T : Type} (f : ME T) : ME T := fun ρ t => do
  let (r1, t1) ← f ρ t
  let x ← rd ρ r1
  match x with
  | .tuple xs => some (.fro (.dict (numD xs 0)), t1)
  | _ => none
theorem pe_dictEnumD {a : Expr} {p p2 pos pos2 : Pos} (hc : X.calm = true) (hg : Gl X "dict") (hm : X.mg "dict" = none) (hg2 : Gl X "enumerate") (hm2 : X.mg "enumerate" = none) (h : PE X a (den Γ fa)) (hK : X.K = Γ.K) (hs : starEach [a] X.env = (false, eval a X.env) :: starEach [] X.env := by rfl)
    (hs2 : starEach [.Call (.Name "enumerate" p2) [a] [] pos2] X.env = (false, eval (.Call (.Name "enumerate" p2) [a] [] pos2) X.env) :: starEach [] X.env := by rfl) :
    PE X (.Call (.Name "dict" p) [.Call (.Name "enumerate" p2) [a] [] pos2] [] pos) (den Γ (mDEn fa)) := pe_w (pe_dictEnum hc hg hm hg2 hm2 h hs hs2) fun σ H Q => by
  rintro ⟨F, ρ, t, r, t', R, e, q⟩
  obtain ⟨⟨r1, t1⟩, e1, e⟩ := bind_some e
  obtain ⟨x, ex, e⟩ := bind_some e
  split at e
  · rename_i xs
    cases e
    refine ⟨F, ρ, t, r1, _, R, e1, fun v F1 H1 R1 x1 k1 => ?_⟩
    obtain ⟨l, vs, rfl, h1, kk⟩ := R1.read k1 ex
    rw [hK]
    refine ⟨l, vs, rfl, same_t R1.ex h1, fun p hp => ?_⟩
    have x2 : Ext [] F1 H1 (upd F1 p (.dK (numV vs 0))) (upd H1 p (.dK (numV vs 0))) := Ext.keep R1.ex hp
    exact q _ _ _ (R1.ext0 x2) (x1.then x2.wide (R1.ext0 x2)) (.dct upd_same (num_dq 0 (kk.mono x2.f)))
  · cases e
end
end Mi
/-! text * int. -/
namespace Mi
open PySem PySem.Spec PyProof.Rows L2
def repS (s : Str) (k : Nat) : Str := ⟨(List.replicate k s.cps).foldl (· ++ ·) #[]⟩
def mulS (x y : PyData) : Option PyData := match x, y with
  | .str s, .int k => if 2 ≤ k ∧ k ≤ 10000 ∧ 1 ≤ s.length ∧ s.length ≤ 100 ∧ (repS s k.toNat).length ≤ sizeLine then some (.str (repS s k.toNat)) else none
  | x, y => mulD x y
theorem op_mulS {X : Cx} : OpR X (binaryOp .Mult) (rD X.K mulS) := by
  rintro pins s σ H v w a b Q I ra rb ⟨F, x, y, z, sm, dx, dy, e, q⟩
  by_cases hx : ∃ t k, x = .str t ∧ y = .int k
  · obtain ⟨t, k, rfl, rfl⟩ := hx
    unfold mulS at e
    dsimp only at e
    split at e
    · rename_i hz
      cases e
      cases (show v = _ from dx)
      cases (show w = _ from dy)
      obtain ⟨t1, rfl⟩ := ra
      obtain ⟨t2, rfl⟩ := rb
      obtain ⟨h1, h2, h3, h4, h5⟩ := hz
      refine P.mul_str (by rw [decide_eq_false (by omega), decide_eq_false (by omega)]; rfl) (fun _ _ => ?_) (fun _ _ => ?_) ?_
      · have : (t.length : Int) ≤ (2 ^ 63 - 1) / k := (Int.le_ediv_iff_mul_le (by omega)).mpr (by
          have e1 : (t.length : Int) * k ≤ 100 * 10000 := Int.mul_le_mul (by omega) h2 (by omega) (by decide)
          omega)
        omega
      · refine decide_eq_false ?_
        have : t.length * k.toNat ≤ 100 * 10000 := Nat.mul_le_mul h4 (by omega)
        exact Nat.not_lt.mpr (Nat.le_trans this (by decide))
      · rw [if_neg (by omega), if_neg]
        · exact ⟨h5, .str _, H, I.tok _, ⟨_, rfl⟩, q _ F H (Ext.refl sm) (.str _)⟩
        · rw [Bool.or_eq_true, beq_iff_eq, beq_iff_eq]
          omega
    · cases e
  · have : mulS x y = mulD x y := by
      unfold mulS
      split
      · rename_i t k
        exact absurd ⟨_, _, rfl, rfl⟩ hx
      · rfl
    rw [this] at e
    exact op_mulD pins s σ H v w a b Q I ra rb ⟨F, x, y, z, sm, dx, dy, e, q⟩
end Mi
/-! list(range(..)), reversed(range(n)), sorted(..) of ints. -/
namespace Mi
open PySem PySem.Spec PyProof.Rows L2
def rgD (a b : Int) : List PyData := (List.range (b - a).toNat).map fun (i : Nat) => PyData.int (a + (i : Nat))
theorem rg_dq {K : PySem.W.Frag} {F : Hp} (a b : Int) : DqA K F (rgV a b) (rgD a b) := by
  unfold rgV rgD
  induction List.range (b - a).toNat with
  | nil => exact .nil
  | cons x xs ih => exact .cons (.int _) ih
section
variable {X : Cx} {Γ : Gm} {a b : Expr} {fa fb : ME Γ.T} {p p2 pos pos2 : Pos}
def mLRg1 {T : Type} (f : ME T) : Env → T → Option (PyData × T) := fun ρ t => match f ρ t with
  | some (.fro (.int n), t') => if 0 ≤ n ∧ n ≤ 16777216 then some (.list (rgD 0 n), t') else none
  | _ => none
def mLRg2 {T : Type} (f g : ME T) : Env → T → Option (PyData × T) := fun ρ t => match f ρ t with
  | some (.fro (.int m), t1) => match g ρ t1 with
    | some (.fro (.int n), t') => if 0 ≤ m ∧ n ≤ 16777216 ∧ m ≤ 16777216 ∧ 0 ≤ n then some (.list (rgD m n), t') else none
    | _ => none
  | _ => none
theorem pe_lRg1D (hc : X.calm = true) (hg : Gl X "list") (hm : X.mg "list" = none) (hg2 : Gl X "range") (hm2 : X.mg "range" = none) (h : PE X a (den Γ fa)) (hs : starEach [a] X.env = (false, eval a X.env) :: starEach [] X.env := by rfl)
    (hs2 : starEach [.Call (.Name "range" p2) [a] [] pos2] X.env = (false, eval (.Call (.Name "range" p2) [a] [] pos2) X.env) :: starEach [] X.env := by rfl) :
    PE X (.Call (.Name "list" p) [.Call (.Name "range" p2) [a] [] pos2] [] pos) (denL Γ (mLRg1 fa)) := pe_w (pe_listRg hc hg hm (prg_1 hg2 hm2 h hs) hs2) fun σ H Q => by
  rintro ⟨F, ρ, t, r, t', R, e, q⟩
  unfold mLRg1 at e
  split at e
  · rename_i n t1 e1
    split at e
    · rename_i hz
      cases e
      refine ⟨F, ρ, t, _, _, R, e1, fun v F1 H1 R1 x1 k1 => ?_⟩
      cases (show Dq Γ.K F1 v (.int n) from k1)
      refine ⟨n, rfl, RgOk.of_le (by decide) hz.2 (by decide) hz.1, fun p hp => ?_⟩
      have x0 : Ext [] F1 H1 F1 (upd H1 p (.lst (rgV 0 n))) := Ext.new R1.ex hp
      have fr := R1.fresh (H' := upd H1 p (.lst (rgV 0 n))) (d := .list (rgD 0 n)) ⟨R1.ex.free hp, _, upd_same, rg_dq 0 n⟩ hp
      exact q p F1 _ (R1.ext0 x0) (x1.then x0.wide (R1.ext0 x0)) ⟨fr.own, old_none x1 R1 hp, fr.old, fr.nS, fr.nsl⟩
    · cases e
  · cases e
theorem pe_lRg2D (hc : X.calm = true) (hg : Gl X "list") (hm : X.mg "list" = none) (hg2 : Gl X "range") (hm2 : X.mg "range" = none) (h : PE X a (den Γ fa)) (h2 : PE X b (den Γ fb)) (hs : starEach [a, b] X.env = (false, eval a X.env) :: starEach [b] X.env := by rfl) (hs1 : starEach [b] X.env = (false, eval b X.env) :: starEach [] X.env := by rfl) (hpl : (backTo pos2 (starEach [b] X.env)).any (·.1) = false := by rfl)
    (hs2 : starEach [.Call (.Name "range" p2) [a, b] [] pos2] X.env = (false, eval (.Call (.Name "range" p2) [a, b] [] pos2) X.env) :: starEach [] X.env := by rfl) :
    PE X (.Call (.Name "list" p) [.Call (.Name "range" p2) [a, b] [] pos2] [] pos) (denL Γ (mLRg2 fa fb)) := pe_w (pe_listRg hc hg hm (prg_2 hg2 hm2 h h2 hs hs1 (hp := hpl)) hs2) fun σ H Q => by
  rintro ⟨F, ρ, t, r, t', R, e, q⟩
  unfold mLRg2 at e
  split at e
  · rename_i m t1 e1
    split at e
    · rename_i n t2 e2
      split at e
      · rename_i hz
        cases e
        refine ⟨F, ρ, t, _, _, R, e1, fun v F1 H1 R1 x1 k1 => ⟨F1, ρ, _, _, _, R1, e2, fun w F2 H2 R2 x2 k2 => ?_⟩⟩
        cases (show Dq Γ.K F1 v (.int m) from k1)
        cases (show Dq Γ.K F2 w (.int n) from k2)
        refine ⟨m, n, rfl, rfl, RgOk.of_le hz.1 hz.2.1 hz.2.2.1 hz.2.2.2, fun p hp => ?_⟩
        have x0 : Ext [] F2 H2 F2 (upd H2 p (.lst (rgV m n))) := Ext.new R2.ex hp
        have fr := R2.fresh (H' := upd H2 p (.lst (rgV m n))) (d := .list (rgD m n)) ⟨R2.ex.free hp, _, upd_same, rg_dq m n⟩ hp
        exact q p F2 _ (R2.ext0 x0) ((x1.then x2 R2).then x0.wide (R2.ext0 x0)) ⟨fr.own, old_none (x1.then x2 R2) R2 hp, fr.old, fr.nS, fr.nsl⟩
      · cases e
    · cases e
  · cases e
end
theorem sort_eq {ns ns' : List Int} (hp : ns'.Perm ns) (hs : ns'.Pairwise (· ≤ ·)) : ns' = ns.mergeSort (fun a b => decide (a ≤ b)) := by
  have h1 : (ns.mergeSort (fun a b => decide (a ≤ b))).Perm ns := List.mergeSort_perm ..
  have h2 : (ns.mergeSort (fun a b => decide (a ≤ b))).Pairwise (· ≤ ·) := by
    have := List.pairwise_mergeSort (le := fun (a b : Int) => decide (a ≤ b)) (fun a b c h1 h2 => by simp at h1 h2 ⊢; omega) (fun a b => by simp; omega) ns
    exact this.imp (by simp)
  exact List.Perm.eq_of_pairwise (fun a b _ _ h1 h2 => by omega) hs h2 (hp.trans h1.symm)
def sortI (ns : List Int) : List Int := ns.mergeSort (fun a b => decide (a ≤ b))
def sortedD : List PyData → Option PyData
  | [.list xs] => (intsOf xs).bind fun ns => if ns.length < 64 then some (.list ((sortI ns).map .int)) else none
  | _ => none
theorem ints_dq {K : PySem.W.Frag} {F : Hp} : ∀ ns : List Int, DqA K F (ns.map V.int) (ns.map PyData.int)
  | [] => .nil
  | n :: ns => .cons (.int n) (ints_dq ns)
theorem call_sortedDD {X : Cx} : CallR X (.builtin "sorted") (rC X.K sortedD) := by
  rintro pins s σ H vs us Q I r ⟨F, xs, z, sm, dx, e, q⟩
  unfold sortedD at e
  split at e
  · obtain ⟨v, rfl, l, ws, rfl, h1, k1⟩ := f1 dx
    cases z2 : intsOf _ with
    | none => rw [z2] at e; cases e
    | some ns =>
      rw [z2] at e
      dsimp only [Option.bind_some] at e
      split at e
      · rename_i hz
        cases e
        have ew := intsOf_dq k1 z2
        subst ew
        refine cr_sorted pins s σ H _ us Q I r ⟨l, ns, rfl, .of h1, hz, fun ns' p hp hs hn => ?_⟩
        have e2 : ns' = sortI ns := sort_eq hp hs
        subst e2
        have x2 : Ext [] F H (upd F p (.lst ((sortI ns).map V.int))) (upd H p (.lst ((sortI ns).map V.int))) := Ext.keep sm hn
        exact q _ _ _ x2 (.lst upd_same (ints_dq _))
      · cases e
  · cases e
/-! ### reversed(range(n)) -/
def mRevR1 {T : Type} (f : ME T) : Env → T → Option (List PyData × T) := fun ρ t => match f ρ t with
  | some (.fro (.int j), t') => if 0 ≤ j ∧ j < 2 ^ 60 then some ((List.range j.toNat).map fun (k : Nat) => PyData.int (j - 1 - (k : Int)), t') else none
  | _ => none
section
variable {X : Cx} {Γ : Gm} {a tg : Expr} {fa : ME Γ.T} {p p2 pos pos2 : Pos}
theorem walk_back {F : Hp} {lo : Int} {n : Nat} : Walks Γ F (Itc lo (-1) n) ((List.range n).map fun (k : Nat) => PyData.int (lo + (k : Nat) * (-1))) := fun i F' H' t s R => by
  refine ⟨fun d hd => ?_, fun hi => (show n ≤ i by rw [List.length_map, List.length_range] at hi; exact Nat.le_of_eq hi)⟩
  rw [List.getElem?_map] at hd
  cases e : (List.range n)[i]? with
  | none => rw [e] at hd; cases hd
  | some k =>
    rw [e] at hd
    cases hd
    obtain ⟨h1, h2⟩ := List.getElem?_eq_some_iff.mp e
    have hk : k = i := by rw [← h2]; simp
    subst hk
    refine ⟨(show k < n by simpa using h1), fun x H'' y => ?_⟩
    obtain ⟨rfl, rfl⟩ := y
    exact ⟨F', Ext.refl R.ex, .int _⟩
theorem pi_revR1D (hg : Gl X "reversed") (hm : X.mg "reversed" = none) (hg2 : Gl X "range") (hm2 : X.mg "range" = none) (h : PE X a (den Γ fa)) (hs : starEach [a] X.env = (false, eval a X.env) :: starEach [] X.env := by rfl)
    (hs2 : starEach [.Call (.Name "range" p2) [a] [] pos2] X.env = (false, eval (.Call (.Name "range" p2) [a] [] pos2) X.env) :: starEach [] X.env := by rfl) :
    PI X tg (.Call (.Name "reversed" p) [.Call (.Name "range" p2) [a] [] pos2] [] pos) (denI Γ (mRevR1 fa)) := pi_w (pi_revR hg hm (prg_1 hg2 hm2 h hs) hs2) fun σ H Rr => by
  rintro ⟨F, ρ, t, items, t', R, e, q⟩
  unfold mRevR1 at e
  split at e
  · rename_i j t1 e1
    split at e
    · rename_i hz
      cases e
      refine ⟨F, ρ, t, _, _, R, e1, fun v F1 H1 R1 x1 k1 => ?_⟩
      cases (show Dq Γ.K F1 v (.int j) from k1)
      refine ⟨j, rfl, by decide, by decide, by omega, by omega, q F1 H1 _ R1 x1 ?_⟩
      have e0 : (j - 0).toNat = j.toNat := by rw [Int.sub_zero]
      have el : (0 : Int) + (((j - 0).toNat : Nat) : Int) - 1 = j - 1 := by omega
      rw [el, e0]
      have := walk_back (Γ := Γ) (F := F1) (lo := j - 1) (n := j.toNat)
      have ef : (fun (k : Nat) => PyData.int (j - 1 + (k : Nat) * (-1))) = fun (k : Nat) => PyData.int (j - 1 - (k : Int)) := by
        funext k
        congr 1
        omega
      rw [ef] at this
      exact this
    · cases e
  · cases e
end
end Mi
/-! xs + ys, a list of one's own. -/
namespace Mi
open PySem PySem.Spec PyProof.Rows L2
section
variable {X : Cx} {Γ : Gm} {a b : Expr} {fa fb : ME Γ.T} {pos : Pos}
def mCatL {T : Type} (f g : ME T) : Env → T → Option (PyData × T) := fun ρ t => do
  let (r1, t1) ← f ρ t
  let (r2, t2) ← g ρ t1
  let x ← rd ρ r1
  let y ← rd ρ r2
  match x, y with
  | .list xs, .list ys => if xs.length + ys.length ≤ sizeLine then some (.list (xs ++ ys), t2) else none
  | _, _ => none
theorem pe_catLD (ha : PE X a (den Γ fa)) (hb : PE X b (den Γ fb)) : PE X (.BinOp a .Add b pos) (denL Γ (mCatL fa fb)) := pe_w (pe_op op_cat ha hb) fun σ H Q => by
  rintro ⟨F, ρ, t, d, t', R, e, q⟩
  obtain ⟨⟨r1, t1⟩, e1, e⟩ := bind_some e
  obtain ⟨⟨r2, t2⟩, e2, e⟩ := bind_some e
  obtain ⟨x, ex, e⟩ := bind_some e
  obtain ⟨y, ey, e⟩ := bind_some e
  split at e
  · rename_i xx yy xs ys
    split at e
    · rename_i hz
      cases e
      refine ⟨F, ρ, t, r1, _, R, e1, fun v F1 H1 R1 x1 k1 => ⟨F1, ρ, _, r2, _, R1, e2, fun w F2 H2 R2 x2 k2 => ?_⟩⟩
      obtain ⟨l, vs, rfl, h1, kk1⟩ := R2.read (k1.mono x2.f) ex
      obtain ⟨m, ws, rfl, h2, kk2⟩ := R2.read k2 ey
      refine ⟨l, m, vs, ws, rfl, rfl, h1, h2, by rw [kk1.length, kk2.length]; exact hz, fun p hp => ?_⟩
      have x3 : Ext [] F2 H2 F2 (upd H2 p (.lst (vs ++ ws))) := Ext.new R2.ex hp
      have fr := R2.fresh (H' := upd H2 p (.lst (vs ++ ws))) (d := .list _) ⟨R2.ex.free hp, _, upd_same, kk1.append kk2⟩ hp
      exact q p F2 _ (R2.ext0 x3) ((x1.then x2 R2).then x3.wide (R2.ext0 x3)) ⟨fr.own, old_none (x1.then x2 R2) R2 hp, fr.old, fr.nS, fr.nsl⟩
    · cases e
  · cases e
end
end Mi
/-! d.get(k, x); dict([(k, x), ..]). -/
namespace Mi
open PySem PySem.Spec PyProof.Rows L2
theorem dgetK_miss {K : PySem.W.Frag} {F : Hp} {k : Key} : ∀ {kvs : List (Key × V)} {es : List (PyData × PyData)}, DqK K F kvs es → dgetK es k = none → valV kvs k = none
  | _, _, .nil, _ => rfl
  | (k', v) :: kvs, _, .cons h t, e => by
    unfold dgetK at e
    rw [keyD_k] at e
    split at e
    · cases e
    · rename_i hne
      rw [valV_neg (fun z => hne (by rw [show k' = k from z]))]
      exact dgetK_miss t e
section
variable {X : Cx} {Γ : Gm} {o e f : Expr} {apos cpos : Pos} {fd fk fx : ME Γ.T}
def mDGet2 {T : Type} (fd fk fx : ME T) : ME T := fun ρ t => do
  let (r1, t1) ← fd ρ t
  let (rk, t2) ← fk ρ t1
  let (rx, t3) ← fx ρ t2
  let d ← rd ρ r1
  match d, rk, rx with
  | .dict es, .fro k, .fro x => match keyD k with
    | some k => some (.fro ((dgetK es k).getD x), t3)
    | none => none
  | _, _, _ => none
theorem keyD_inv {d : PyData} {k : Key} (h : keyD d = some k) : d = kD k := by
  cases d with
  | int i => cases h; rfl
  | str x => cases h; rfl
  | _ => cases h
theorem pe_dget2D (hu : X.A.units + 1 < cLine) (ho : PE X o (den Γ fd)) (he : PE X e (den Γ fk)) (hf : PE X f (den Γ fx)) (m : M2 X o "get" apos e f cpos) : PE X (.Call (.Attribute o "get" apos) [e, f] [] cpos) (den Γ (mDGet2 fd fk fx)) := pe_w (pe_dget2 hu ho he hf m) fun σ H Q => by
  rintro ⟨F, ρ, t, r, t', R, e, q⟩
  obtain ⟨⟨r1, t1⟩, e1, e⟩ := bind_some e
  obtain ⟨⟨rk, t2⟩, e2, e⟩ := bind_some e
  obtain ⟨⟨rx, t3⟩, e3, e⟩ := bind_some e
  obtain ⟨d, ed, e⟩ := bind_some e
  split at e
  · rename_i z1 z2 es z3 k z4 x
    split at e
    · rename_i ky hk
      cases e
      have hkd := keyD_inv hk
      subst hkd
      refine ⟨F, ρ, t, r1, _, R, e1, fun v F1 H1 R1 x1 k1 => ?_⟩
      obtain ⟨a, kvs, rfl, h1, kk⟩ := R1.read k1 ed
      refine ⟨a, rfl, .inl ⟨kvs, .of h1⟩, F1, ρ, _, _, _, R1, e2, fun w F2 H2 R2 x2 k2 => ⟨F2, ρ, _, _, _, R2, e3, fun y F3 H3 R3 x3 k3 => ?_⟩⟩
      obtain ⟨a', kvs', ea, h3, kk3⟩ := R3.read ((k1.mono x2.f).mono x3.f) ed
      cases ea
      have hw : w = kV ky := by
        cases ky with
        | inl i => cases (show Dq Γ.K F2 w (.int i) from k2); rfl
        | inr z => cases (show Dq Γ.K F2 w (.str z) from k2); rfl
      subst hw
      cases hg : dgetK es ky with
      | some d0 =>
        obtain ⟨v0, hv0, dq⟩ := dgetK_ok kk3 hg
        refine ⟨some v0, .inl ⟨kvs', ky, .of h3, rfl, hv0.symm⟩, ?_⟩
        rw [hg] at q
        exact q v0 F3 H3 R3 ((x1.then x2 R2).then x3 R3) dq
      | none =>
        have hv0 := dgetK_miss kk3 hg
        refine ⟨none, .inl ⟨kvs', ky, .of h3, rfl, hv0.symm⟩, ?_⟩
        rw [hg] at q
        exact q y F3 H3 R3 ((x1.then x2 R2).then x3 R3) k3
    · cases e
  · cases e
end
end Mi
/-! x in (1, 2), x of any kind; 3 - True. -/
namespace Mi
open PySem PySem.Spec PyProof.Rows L2 PySem.SeqAt PySem.Calls
theorem dict_eq_declines_int (l : Addr) (es : Array DictEntry) (n : Nat) (dd : Option Addr) (sl : Array (Option Value)) (b : Int) (u : Tok) :
    Meets (Builtin.«dict.__eq__» ⟨[.ref l, .int b u], []⟩) (fun _ R s => s.heap.get? l = some { cls := .type "dict", dict := dd, data := .dict es n, slots := sl } ∧ R (.ok (.ret .notImplemented)) s) :=
  .of_wp fun prog w A R s h => by
    obtain ⟨hp, g, d, tk, os⟩ := s
    obtain ⟨hl, h⟩ := h
    have f1 := F.sub_int_dict
    wp_walk using wpAny_loadPart' hl
    exact ⟨_, rfl, h⟩
theorem int_eq_declines_dict (b : Int) (u : Tok) (l : Addr) (c : Value) (es : Array DictEntry) (n : Nat) (dd : Option Addr) (sl : Array (Option Value)) :
    Meets (Builtin.«int.__eq__» ⟨[.int b u, .ref l], []⟩) (fun _ R s => s.heap.get? l = some { cls := c, dict := dd, data := .dict es n, slots := sl } ∧ R (.ok (.ret .notImplemented)) s) :=
  .of_wp fun prog w A R s h => by
    obtain ⟨hp, g, d, tk, os⟩ := s
    obtain ⟨hl, h⟩ := h
    wp_walk using wpAny_loadPart' hl, wpAny_load hl
    exact ⟨_, rfl, h⟩
theorem rc_int_dict {A : Around} {s : Shared} {l : Addr} {es : Array DictEntry} {n : Nat} (b : Int) (u : Tok) (hl : ∃ o, s.heap.get? l = some o ∧ o.ExactDict ∧ o.data = .dict es n) (hu : A.units < cLine) : RcAt A s (.int b u) (.ref l) false := fun prog w E Q h => by
  obtain ⟨⟨cls, dd, data, sl⟩, ho, ⟨hc, hdd, hsl⟩, hd⟩ := id hl
  simp only at hc hd hdd hsl
  subst hc hd
  exact rc_eq_decline_or (k := false) (typeIs_int s b u) ⟨_, ho, rfl⟩ (by decide) F.sub_dict_int F.slot_int_eq F.slot_dict_eq_refl
    (fun _ hq => call_meets F.slot_int_eq (typeIs_int s b u) F.entry_int_eq (F.args_int_eq_2 _ _) (int_eq_declines_dict b u l (.type "dict") es n dd sl) ⟨ho, hq⟩)
    (fun _ hq => call_meets F.slot_dict_eq_refl ⟨_, ho, rfl⟩ F.entry_dict_eq (F.args_dict_eq_2 _ _) (dict_eq_declines_int l es n dd sl b u) ⟨ho, hq⟩)
    (fun _ hq => wpAny_of_eq (rfl : isSame (.int b u) (.ref l) = pure false) hq) (.inr hu) h
theorem eq_int_dict {A : Around} {s : Shared} {l : Addr} {es : Array DictEntry} {n : Nat} (b : Int) (u : Tok) (hl : ∃ o, s.heap.get? l = some o ∧ o.ExactDict ∧ o.data = .dict es n) (hu : A.units < cLine) : EqAt A s (.int b u) (.ref l) false := fun prog w E Q h => by
  unfold eqBool
  refine wpAny_holding ?_
  refine wpAny_ite_split (fun hab => absurd (eq_of_beq hab) nofun) (fun _ => ?_)
  exact wpAny_bind (rc_int_dict b u hl hu prog w E _ (wpAny_truthy_bool h))
def isI : PyData → Bool
  | .int _ => true
  | _ => false
def inA (x y : PyData) : Option PyData := match y with
  | .tuple ys => if (ys.all isI && !flatP x) = true then some (.bool false) else inD x y
  | _ => inD x y
theorem ints_of {K : PySem.W.Frag} {F : Hp} : ∀ {ws : List V} {ys : List PyData} {us : List Value}, DqA K F ws ys → ys.all isI = true → Vals ws us → ∀ u ∈ us, ∃ i t, u = .int i t
  | _, _, _, .nil, _, .nil, u, m => by cases m
  | _, _, _, .cons g k, h, .cons r rs, u, m => by
    rw [List.all_cons, Bool.and_eq_true] at h
    rcases List.mem_cons.mp m with rfl | m
    · cases g with
      | int i => obtain ⟨t, rfl⟩ := r; exact ⟨i, t, rfl⟩
      | _ => cases h.1
    · exact ints_of k h.2 rs u m
section
variable {X : Cx}
theorem op_inA (hu : X.A.units + 64 < cLine) : OpR X (compareOp .In) (rD X.K inA) := by
  rintro pins s σ H v w a b Q I ra rb ⟨F, x, y, z, sm, dx, dy, e, q⟩
  have old : inD x y = some z → _ := fun e => op_inD pins s σ H v w a b Q I ra rb ⟨F, x, y, z, sm, dx, dy, e, q⟩
  unfold inA at e
  split at e
  · rename_i ys
    split at e
    · rename_i hc
      rw [Bool.and_eq_true] at hc
      cases e
      obtain ⟨p, ws, rfl, h1, k⟩ := dy
      cases rb
      obtain ⟨its, r, pl, hz⟩ := I.tuple (same_t sm h1)
      have hu1 : X.A.in1.units < cLine := Nat.lt_of_le_of_lt (show X.A.units + 1 ≤ X.A.units + 64 by omega) hu
      have ref : ∃ l, a = .ref l ∧ ∀ (i : Int) (t : Tok), EqAt X.A.in1 s (.int i t) (.ref l) false := by
        cases x with
        | list ds =>
          obtain ⟨l, vs, rfl, hl, _⟩ := dx
          cases ra
          obtain ⟨its2, r2, pl2, hz2⟩ := I.list (.of hl)
          exact ⟨l, rfl, fun i t => EqAt.int_list i t pl2.isList hu1⟩
        | tuple ds =>
          obtain ⟨l, vs, rfl, hl, _⟩ := dx
          cases ra
          obtain ⟨its2, r2, pl2, hz2⟩ := I.tuple (same_t sm hl)
          exact ⟨l, rfl, fun i t => EqAt.int_tuple i t pl2 hu1⟩
        | dict es =>
          obtain ⟨l, kvs, rfl, hl, _⟩ := dx
          cases ra
          obtain ⟨_, _, vs, _, o, es2, ep, ho, hx, hd, _⟩ := I.hok l _ hl
          exact ⟨l, rfl, fun i t => eq_int_dict i t ⟨o, ho, hx, hd⟩ hu1⟩
        | _ => exact absurd hc.2 (by simp [flatP])
      obtain ⟨l, rfl, hl⟩ := ref
      refine SeqAt.in_tupleAt (fun _ => false) pl (fun u hm => ?_) ⟨.bl _, H, I, rfl, ?_⟩
      · obtain ⟨i, t, rfl⟩ := ints_of k hc.1 r u (by simpa using hm)
        exact hl i t
      · rw [show its.toArray.any (fun _ => false) = false by simp]
        exact q _ F H (Ext.refl sm) (.bl _)
    · exact old e
  · exact old e
def subB (x y : PyData) : Option PyData := match x, y with
  | .int i, .bool k => some (.int (i - b2i k))
  | x, y => subD x y
theorem same_reflected_sub : reflectedDiffers (.type "int") (.type "bool") "sub" = pure false := by
  unfold reflectedDiffers
  show (typeLookup (.type "bool") (dunderR "sub") >>= fun rb => typeLookup (.type "int") (dunderR "sub") >>= fun ra => pure (rb.isSome && rb != ra)) = pure false
  rw [typeLookup_type, typeLookup_type, builtinLookup_eq_fast]; kernel_rfl
theorem op_sub_ib : OpR X (binaryOp .Sub) (fun x y H Q => ∃ i k, x = .int i ∧ y = .bl k ∧ Q (.int (i - b2i k)) H) := by
  intro pins s σ H x y v u Q I rx ry h
  obtain ⟨i, k, rfl, rfl, q⟩ := h
  obtain ⟨t, rfl⟩ := rx
  cases ry
  refine binaryOp_sub_gives (op := .Sub) (T := "int") (U := "bool") (by decide) (typeIs_int s i t) rfl F.fills_int_sub F.fills_bool_sub isSubtype_bool_int same_reflected_sub F.slot_int_sub F.entry_int_sub (F.args_int_sub_2 _ _)
    (AutoIntG7.int___sub___int_bool_0 i t k) trivial ?_
  exact ⟨.int (i - b2i k), H, I.tok _, ⟨_, rfl⟩, q⟩
theorem op_subB : OpR X (binaryOp .Sub) (rD X.K subB) := by
  rintro pins s σ H v w a b Q I ra rb ⟨F, x, y, z, sm, dx, dy, e, q⟩
  unfold subB at e
  split at e
  · cases e
    exact op_sub_ib pins s σ H _ _ a b Q I ra rb ⟨_, _, dx, dy, q _ F H (Ext.refl sm) (.int _)⟩
  · exact op_subD pins s σ H v w a b Q I ra rb ⟨F, x, y, z, sm, dx, dy, e, q⟩
end
end Mi
/-! xs[k] += d, xs one's own. -/
namespace Mi
open PySem L2
section
variable {X : Cx}
theorem get_listN : PGet X (fun o i H Q => ∃ p xs v, ∃ n : Nat, o = .ref p ∧ i = .int (n : Int) ∧ SqL X.K H p xs ∧ xs[n]? = some v ∧ Q v H) := by
  intro pins s σ H o i ov iv Q I ro ri h
  obtain ⟨p, xs, v, n, rfl, rfl, hp, hv, q⟩ := h
  cases ro
  obtain ⟨t, rfl⟩ := ri
  obtain ⟨its, r, pl, hz⟩ := I.list hp
  obtain ⟨w, ew, rw'⟩ := r.get hv
  have hl := r.length
  have hn := line63
  have hlt : n < xs.length := (List.getElem?_eq_some_iff.mp hv).1
  exact wpAny_getItem_list pl.isList (by omega) (by omega) (by rw [Int.toNat_natCast]; simpa using ew) ⟨v, H, I, rw', q⟩
end
def mAugAt {T : Type} (i : Nat) (g : PyData → PyData → Option PyData) (fk fa : ME T) : MS T := fun ρ t => match fk ρ t with
  | some (.fro (.int k), t1) => if 0 ≤ k then match ρ[i]? with
    | some (some (.own (.list ds))) => match ds[k.toNat]? with
      | some x => do
        let (r, t2) ← fa ρ t1
        let y ← rd ρ r
        let z ← g x y
        pure (.nx (ρ.set i (some (.own (.list (ds.set k.toNat z))))), t2)
      | none => none
    | _ => none
    else none
  | _ => none
section
variable {X : Cx} {Γ : Gm} {i : Nat} {o k a : Expr} {q2 pos : Pos} {fk fa : ME Γ.T} {op : Operator} {g : PyData → PyData → Option PyData}
theorem ps_augAtD (hK : X.K = Γ.K) (ho : PE X o (tVar i)) (hi : PE X k (den Γ fk)) (ha : PE X a (den Γ fa)) (hop : PIp X op (rD Γ.K g))
    (hs : ∀ ov iv new, augStore k ov iv new = (do holding [new, ov, iv] (setItem ov iv new); release [new, ov, iv] []; pure .next) := by intros; rfl) : PS X (.AugAssign (.Subscript o k q2) op a pos) (denS Γ (mAugAt i g fk fa)) :=
  ps_w (ps_augS ho hi get_listN ha hop set_list hs) fun D σ H => by
    rintro ⟨F, ρ, t, r, t', R, e, q⟩
    unfold mAugAt at e
    split at e
    · rename_i z t1 e1
      split at e
      · rename_i hz
        obtain ⟨n, rfl⟩ : ∃ n : Nat, z = n := ⟨z.toNat, by omega⟩
        rw [Int.toNat_natCast] at e
        split at e
        · rename_i ds e3
          split at e
          · rename_i x ex
            obtain ⟨⟨r1, t2⟩, e2, e⟩ := bind_some e
            obtain ⟨y, ey, e⟩ := bind_some e
            obtain ⟨z, ez, e⟩ := bind_some e
            cases e
            obtain ⟨p1, h1, _⟩ := R.slots i _ e3
            refine ⟨_, h1, F, ρ, t, _, _, R, e1, fun v F1 H1 R1 x1 k1 => ?_⟩
            cases (show Dq Γ.K F1 v (.int n) from k1)
            obtain ⟨p2, g1, ⟨g2, ws2, g3, g4⟩, _, _⟩ := R1.slots i _ e3
            rw [h1] at g1
            cases g1
            obtain ⟨u, hu, ku⟩ := g4.get ex
            refine ⟨p1, ws2, u, n, rfl, rfl, .of g3, hu, ?_⟩
            refine ⟨F1, ρ, t1, r1, _, R1, e2, fun w F2 H2 R2 x2 k2 => ?_⟩
            refine ⟨F2, x, y, z, R2.ex, (ku.mono x2.f).dv R2.ex, R2.read k2 ey, ez, fun u2 F3 H3 x3 k3 => ?_⟩
            have R3 := R2.ext0 x3
            obtain ⟨p3, g1, ⟨g5, ws3, g6, g7⟩, _, _⟩ := R3.slots i _ e3
            rw [h1] at g1
            cases g1
            have hlt := (List.getElem?_eq_some_iff.mp ex).1
            have hix : ixN ds.length (n : Int) = some n := by
              unfold ixN
              rw [if_pos (by omega), if_pos (by omega), Int.toNat_natCast]
            refine ⟨p1, ws3, _, n, rfl, rfl, g6, by rw [g7.length]; exact hix, ?_⟩
            exact q σ F3 _ (R3.turn e3 h1 (show Own Γ.K F3 (upd H3 p1 (.lst (ws3.set n u2))) p1 (.list (ds.set n z)) from ⟨g5, _, upd_same, DqA.put k3 n g7⟩)) ((x1.f.trans x2.f).trans x3.f)
          · cases e
        · cases e
      · cases e
    · cases e
end
section
variable {T : Type} {ρ : Env} {t : T} {i : Nat} {fk fa : ME T} {g : PyData → PyData → Option PyData} {N : Env → T → Prop} {R : PyData → T → Prop} {B C : Env → T → Prop}
theorem s_augAt (h : Ef fk ρ t fun d t1 => ∃ n : Nat, d = .int (n : Int) ∧ ∃ ds, ρ[i]? = some (some (.own (.list ds))) ∧ ∃ x, ds[n]? = some x ∧ Ed fa ρ t1 fun y t2 => ∃ z, g x y = some z ∧ N (ρ.set i (some (.own (.list (ds.set n z))))) t2) : Es (mAugAt i g fk fa) ρ t N R B C := by
  obtain ⟨_, t1, e1, n, rfl, ds, e3, x, ex, r, t2, y, e2, ey, z, ez, q⟩ := h
  refine ⟨.nx _, t2, ?_, q⟩
  unfold mAugAt
  rw [e1]
  dsimp only
  rw [if_pos (by omega), e3]
  dsimp only
  rw [Int.toNat_natCast, ex]
  dsimp only
  rw [e2]
  show (rd ρ r >>= _) = _
  rw [ey]
  show (g x y >>= _) = _
  rw [ez]
  rfl
end
section
variable {X : Cx} {Γ : Gm} {a b : Expr} {fa fb : ME Γ.T} {pos : Pos}
/-- xs * n, a list of one's own -/
def repLD : PyData → PyData → Option PyData
  | .list xs, .int k => if -(2 ^ 63) ≤ k ∧ k < 2 ^ 63 ∧ xs.length * k.toNat ≤ sizeLine then some (.list (List.replicate k.toNat xs).flatten) else none
  | _, _ => none
def mRepL {T : Type} (f g : ME T) : Env → T → Option (PyData × T) := fun ρ t => do
  let (r1, t1) ← f ρ t
  let (r2, t2) ← g ρ t1
  let x ← rd ρ r1
  let y ← rd ρ r2
  let z ← repLD x y
  pure (z, t2)
theorem pe_repLD (ha : PE X a (den Γ fa)) (hb : PE X b (den Γ fb)) : PE X (.BinOp a .Mult b pos) (denL Γ (mRepL fa fb)) := pe_w (pe_op op_rep ha hb) fun σ H Q => by
  rintro ⟨F, ρ, t, d, t', R, e, q⟩
  obtain ⟨⟨r1, t1⟩, e1, e⟩ := bind_some e
  obtain ⟨⟨r2, t2⟩, e2, e⟩ := bind_some e
  obtain ⟨x, ex, e⟩ := bind_some e
  obtain ⟨y, ey, e⟩ := bind_some e
  obtain ⟨z, ez, e⟩ := bind_some e
  cases e
  unfold repLD at ez
  split at ez
  · rename_i xs k _
    split at ez
    · rename_i hz
      cases ez
      refine ⟨F, ρ, t, r1, _, R, e1, fun v F1 H1 R1 x1 k1 => ⟨F1, ρ, _, r2, _, R1, e2, fun w F2 H2 R2 x2 k2 => ?_⟩⟩
      obtain ⟨l, vs, rfl, h1, kk1⟩ := R2.read (k1.mono x2.f) ex
      cases (show w = _ from R2.read k2 ey)
      refine ⟨l, k, vs, rfl, rfl, h1, hz.1, hz.2.1, by rw [kk1.length]; exact hz.2.2, fun p hp => ?_⟩
      have x3 : Ext [] F2 H2 F2 (upd H2 p (.lst (List.replicate k.toNat vs).flatten)) := Ext.new R2.ex hp
      have fr := R2.fresh (H' := upd H2 p (.lst (List.replicate k.toNat vs).flatten)) (d := .list _) ⟨R2.ex.free hp, _, upd_same, kk1.rep _⟩ hp
      exact q p F2 _ (R2.ext0 x3) ((x1.then x2 R2).then x3.wide (R2.ext0 x3)) ⟨fr.own, old_none (x1.then x2 R2) R2 hp, fr.old, fr.nS, fr.nsl⟩
    · cases ez
  · cases ez
end
theorem repLD_at {xs : List PyData} {i : Int} (h : -(2 ^ 63) ≤ i ∧ i < 2 ^ 63 ∧ xs.length * i.toNat ≤ sizeLine) : repLD (.list xs) (.int i) = some (.list (List.replicate i.toNat xs).flatten) := if_pos h
theorem repLD_ok {xs : List PyData} {k : Nat} (h : xs.length * k ≤ 1000000) (hk : k ≤ 1000000) : repLD (.list xs) (.int (k : Int)) = some (.list (List.replicate k xs).flatten) := by
  rw [repLD_at ⟨by omega, by omega, by rw [Int.toNat_natCast]; exact Nat.le_trans h (by decide)⟩, Int.toNat_natCast]
section
variable {T : Type} {ρ : Env} {t : T} {fa fb : ME T} {Q : PyData → T → Prop}
theorem l_repL (h : Ed fa ρ t fun x t1 => Ed fb ρ t1 fun y t2 => ∃ z, repLD x y = some z ∧ Q z t2) : Eg (mRepL fa fb) ρ t Q := by
  obtain ⟨r1, t1, x, e1, ex, r2, t2, y, e2, ey, z, ez, q⟩ := h
  refine ⟨_, t2, ?_, q⟩
  unfold mRepL
  rw [e1]
  show (fb ρ t1 >>= _) = _
  rw [e2]
  show (rd ρ r1 >>= _) = _
  rw [ex]
  show (rd ρ r2 >>= _) = _
  rw [ey]
  show (repLD _ _ >>= _) = _
  rw [ez]
  rfl
theorem l_catL (h : Ed fa ρ t fun x t1 => Ed fb ρ t1 fun y t2 => ∃ (xs ys : List PyData), x = .list xs ∧ y = .list ys ∧ xs.length + ys.length ≤ 1000000 ∧ Q (.list (xs ++ ys)) t2) : Eg (mCatL fa fb) ρ t Q := by
  obtain ⟨r1, t1, x, e1, ex, r2, t2, y, e2, ey, xs, ys, rfl, rfl, hz, q⟩ := h
  refine ⟨_, t2, ?_, q⟩
  unfold mCatL
  rw [e1]
  show (fb ρ t1 >>= _) = _
  rw [e2]
  show (rd ρ r1 >>= _) = _
  rw [ex]
  show (rd ρ r2 >>= _) = _
  rw [ey]
  exact if_pos (Nat.le_trans hz (by decide))
end
end Mi
/-! zip of a list and a tuple. -/
namespace Mi
open PySem PySem.Spec PyProof.Rows L2 PySem.Calls
open PySem.W (neN ltN)
/-- a list at a, n long, beside a tuple at b, m long -/
def ItzX (K : PySem.W.Frag) (a b : Addr) (n m : Nat) : It where
  go := fun i H => ∃ (xs ys : List V) (x y : V), (SqL K H a xs ∧ xs.length = n) ∧ (SqT K H b ys ∧ ys.length = m) ∧ xs[i]? = some x ∧ ys[i]? = some y
  yld := fun i H v H' => ∃ T x y, v = .ref T ∧ H T = none ∧ H' = upd H T (.tup [x, y]) ∧
    (∀ xs, SqL K H a xs → xs[i]? = some x) ∧ ∀ ys, SqT K H b ys → ys[i]? = some y
  stop := fun i H => ∃ xs ys : List V, (SqL K H a xs ∧ xs.length = n) ∧ (SqT K H b ys ∧ ys.length = m) ∧ (n ≤ i ∨ m ≤ i)
structure ZSt (I a b n m i : Nat) (h : Heap) : Prop where
  zip : IsZip h (I + 4) (I + 2) (I + 3) .none
  ti : IsPair h (I + 2) (.ref I) (.ref (I + 1))
  to : ∃ x y, IsPair h (I + 3) x y
  one : h.IsListIter I a i
  two : h.IsTupleIter (I + 1) b i
  le1 : i ≤ n
  le2 : i ≤ m
theorem zsep {I a b : Nat} (ha : a < I) (hb : b < I) : ZipSep2 (I + 4) (I + 2) (I + 3) I (I + 1) [I, a] [I + 1, b] := by
  have ne : ∀ {x y : Nat}, (x < y ∨ y < x) → ¬ ((x : Addr) = (y : Addr)) := fun {x y} h e => by
    have e : x = y := e
    omega
  have no : ∀ {c x y : Addr}, ¬ c = x → ¬ c = y → c ∉ [x, y] := fun h1 h2 m => by
    rcases List.mem_cons.mp m with e | m
    · exact h1 e
    · exact h2 (List.mem_singleton.mp m)
  exact {
    TIz := ne (by omega), TOz := ne (by omega), TITO := ne (by omega), TIi1 := ne (by omega), TIi2 := ne (by omega)
    mem1 := List.mem_cons_self .., mem2 := List.mem_cons_self ..
    zf1 := no (ne (by omega)) (ne (by omega)), Tf1 := no (ne (by omega)) (ne (by omega))
    zf2 := no (ne (by omega)) (ne (by omega)), Tf2 := no (ne (by omega)) (ne (by omega))
    sep1_2 := no (ne (by omega)) (ne (by omega)), sep2_1 := no (ne (by omega)) (ne (by omega)) }
theorem fp5 {I c : Nat} (h : c ∈ [I + 4, I + 2, I + 3, I, I + 1]) : c = I + 4 ∨ c = I + 2 ∨ c = I + 3 ∨ c = I ∨ c = I + 1 := by simpa using h
theorem turn_zipX {P : Program} {w : World} {K : PySem.W.Frag} {elts : List Expr} {kk : Nat} {tpos : Pos} {I a b n m : Nat} (ha : a < I) (hb : b < I) :
    Turn P w K (.Tuple elts kk tpos) (ItzX K a b n m) [I + 4, I + 2, I + 3, I, I + 1] (I + 4) (ZSt I a b n m) where
  mem := List.mem_cons_self ..
  obj := fun i h st c hc => by
    obtain ⟨o1, e1, _, d1⟩ := st.one
    obtain ⟨o2, e2, _, d2⟩ := st.two
    obtain ⟨x, y, e3⟩ := st.to
    rcases fp5 hc with rfl | rfl | rfl | rfl | rfl
    · exact ⟨_, st.zip, fun v z => nomatch z⟩
    · exact ⟨_, st.ti, fun v z => nomatch z⟩
    · exact ⟨_, e3, fun v z => nomatch z⟩
    · exact ⟨o1, e1, fun v z => by rw [d1] at z; cases z⟩
    · exact ⟨o2, e2, fun v z => by rw [d2] at z; cases z⟩
  keep := fun i h h' st k => by
    obtain ⟨x, y, e3⟩ := st.to
    exact ⟨k _ (by simp) _ st.zip, k _ (by simp) _ st.ti, ⟨x, y, k _ (by simp) _ e3⟩, st.one.at fun o z => k _ (by simp) o z, st.two.at fun o z => k _ (by simp) o z, st.le1, st.le2⟩
  item := by
    intro X hP hw hK hc i pins s σ H E Iv hf st hg
    subst hP hw hK
    obtain ⟨x0, y0, hTO⟩ := st.to
    obtain ⟨xs, ys, x, y, ⟨hqx, hxl⟩, ⟨hqy, hyl⟩, hx, hy⟩ := hg
    obtain ⟨its, rv, p, _⟩ := Iv.list hqx
    obtain ⟨its2, rv2, p2, _⟩ := Iv.tuple hqy
    obtain ⟨u, hu, ru⟩ := rv.get hx
    obtain ⟨u2, hu2, ru2⟩ := rv2.get hy
    have hh : X.A.in1.handled = none := Iv.ok.hd hc
    have D1 := Draws.list (prog := X.prog) (w := X.w) hh I a (Nat.ne_of_lt ha) its.toArray
    have D2 := Draws.tuple (prog := X.prog) (w := X.w) hh (I + 1) b (Nat.ne_of_lt (Nat.lt_succ_of_lt hb)) its2.toArray
    have l1 : i < its.toArray.size := by
      have := (List.getElem?_eq_some_iff.mp hu).1
      simpa using this
    have l2 : i < its2.toArray.size := by
      have := (List.getElem?_eq_some_iff.mp hu2).1
      simpa using this
    have hzl : I + 4 < s.heap.objs.size := Heap.lt_size st.zip
    refine wpAny_pyNext_zipD2_item (zsep ha hb) D1 D2 st.zip st.ti hTO ⟨st.one, p.isList⟩ ⟨st.two, p2⟩ l1 l2 fun v1 v2 h' tk q1 q2 z' to' s1 s2 hT hsz hk => ?_
    have e1 : u = v1 := by
      have q1 : its.toArray[i]? = some v1 := q1
      rw [show its.toArray[i]? = its[i]? by simp, hu] at q1
      exact Option.some.inj q1
    have e2 : u2 = v2 := by
      have q2 : its2.toArray[i]? = some v2 := q2
      rw [show its2.toArray[i]? = its2[i]? by simp, hu2] at q2
      exact Option.some.inj q2
    subst e1
    subst e2
    refine ⟨_, rfl, ?_⟩
    refine wpAny_letOwnedTupleGo_zip (s := { s with heap := h', toks := tk }) z' fun h'' z'' sb => ?_
    have hT2 : IsPair h'' s.heap.objs.size u u2 := (sb.2 _ (Nat.ne_of_gt hzl)).trans hT
    have new : ObjOk X.prog X.w (upd H s.heap.objs.size (.tup [x, y])) h'' s.heap.objs.size (.tup [x, y]) :=
      ⟨show 2 ≤ sizeLine by decide, [u, u2], .cons ru (.cons ru2 .nil), ⟨_, hT2, rfl, _, rfl⟩⟩
    have I1 : Inv X pins σ (upd H s.heap.objs.size (.tup [x, y])) { s with heap := h'', toks := tk } := by
      refine Iv.turnedNew (t' := tk) (ch := [I + 4, I + 2, I + 3, I, I + 1]) (fun c o hn e => ?_) hf (Nat.le_refl _) new
      have n1 : c ≠ I + 4 := fun z => hn (by simp [z])
      exact (sb.2 c n1).trans (hk c o n1 (fun z => hn (by simp [z])) (fun z => hn (by simp [z])) (fun z => hn (by simp [z])) e)
    refine ⟨.ref s.heap.objs.size, _, I1, rfl, ⟨_, x, y, rfl, Iv.hok.fresh (Nat.le_refl _), rfl, ?_, ?_⟩, ?_, fun c hcm => ?_⟩
    · intro l hl
      rw [Iv.list_inj hl hqx]
      exact hx
    · intro l hl
      rw [Iv.tuple_inj hl hqy]
      exact hy
    · have g1 := (List.getElem?_eq_some_iff.mp hx).1
      have g2 := (List.getElem?_eq_some_iff.mp hy).1
      exact ⟨z'', (sb.2 _ (neN (by omega))).trans (hk _ _ (neN (by omega)) (neN (by omega)) (neN (by omega)) (neN (by omega)) st.ti), ⟨u, u2, (sb.2 _ (neN (by omega))).trans to'⟩,
        s1.1.at fun o z => (sb.2 _ (neN (by omega))).trans z, s2.1.at fun o z => (sb.2 _ (neN (by omega))).trans z, by omega, by omega⟩
    · have hlt : c < s.heap.objs.size := by
        rcases fp5 hcm with rfl | rfl | rfl | rfl | rfl <;> exact ltN (by omega)
      rw [upd_ne (Nat.ne_of_lt hlt)]
      exact (hf c hcm).1
  done := by
    intro X hP hw hK hc i pins s σ H E Iv hf st hg
    subst hP hw hK
    obtain ⟨x0, y0, hTO⟩ := st.to
    obtain ⟨xs, ys, ⟨hqx, hxl⟩, ⟨hqy, hyl⟩, hend⟩ := hg
    obtain ⟨its, rv, p, _⟩ := Iv.list hqx
    obtain ⟨its2, rv2, p2, _⟩ := Iv.tuple hqy
    have hh : X.A.in1.handled = none := Iv.ok.hd hc
    have D1 := Draws.list (prog := X.prog) (w := X.w) hh I a (Nat.ne_of_lt ha) its.toArray
    have D2 := Draws.tuple (prog := X.prog) (w := X.w) hh (I + 1) b (Nat.ne_of_lt (Nat.lt_succ_of_lt hb)) its2.toArray
    have l1 : its.toArray.size = n := by rw [List.size_toArray, ← rv.length, hxl]
    have l2 : its2.toArray.size = m := by rw [List.size_toArray, ← rv2.length, hyl]
    have b1 := st.le1
    have b2 := st.le2
    refine wpAny_pyNext_zipD2_end (zsep ha hb) D1 D2 st.zip st.ti hTO ⟨st.one, p.isList⟩ ⟨st.two, p2⟩ (by omega) (by omega) (by omega) fun h' tk hk => ⟨rfl, ?_⟩
    exact Iv.turnedL (t' := tk) (ch := [I + 4, I + 2, I + 3, I, I + 1]) (fun c o hn e =>
      hk c o (fun z => hn (by simp [z])) (fun z => hn (by simp [z])) (fun z => hn (by simp [z])) (fun z => hn (by simp [z])) e) hf
  self := fun A i s Q E st h => wpAny_pyIter_zip st.zip h
/-! ### zip(xs, ys) is made -/
def zx1 (h : Heap) (a : Addr) : Heap := h.push { cls := .type "list_iterator", data := .fields #[.ref a, .int 0 0] }
def zx2 (h : Heap) (a b : Addr) : Heap := (zx1 h a).push { cls := .type "tuple_iterator", data := .fields #[.ref b, .int 0 0] }
def zx3 (h : Heap) (a b : Addr) : Heap := (zx2 h a b).push { cls := .type "tuple", data := .seq #[.ref h.objs.size, .ref (zx1 h a).objs.size] }
def zx4 (h : Heap) (a b : Addr) : Heap := (zx3 h a b).push { cls := .type "tuple", data := .seq #[.none, .none] }
def zx5 (h : Heap) (a b : Addr) : Heap := (zx4 h a b).push { cls := .type "zip", data := .fields #[.none, .bool false, .bool false, .ref (zx2 h a b).objs.size, .ref (zx3 h a b).objs.size] }
theorem zx_new (a b : Addr) (xs ys : Array Value) : Meets (Builtin.«zip.__new__» ⟨[.type "zip", .ref a, .ref b], []⟩) (fun _ R s =>
      s.heap.IsList a xs ∧ s.heap.IsTuple b ys ∧ R (.ok (.ret (.ref (zx4 s.heap a b).objs.size))) { s with heap := zx5 s.heap a b }) :=
  .of_wp fun prog w A R s h => by
    obtain ⟨hp, g, d, tk, os⟩ := s
    obtain ⟨hl1, hl2, h⟩ := h
    have hsub := sub_zip
    have L1 : Heap.IsList (Shared.heap ⟨hp, g, d, tk, os⟩) a xs := hl1
    have L2 : Heap.IsTuple (Shared.heap ⟨zx1 hp a, g, d, tk, os⟩) b ys := Heap.IsTuple.push hl2 _
    unfold zx1 at L2
    wp_walk using wpAny_pyIter_list L1, wpAny_pyIter_tuple L2
    exact ⟨_, rfl, h⟩
section
variable {prog : Program} {w : World} {A : Around} {E : Value → Shared → Prop} {s : Shared}
theorem call_zipX {a b : Addr} {xs ys : Array Value} {Q : Value → Shared → Prop} (n m : Nat) (hl1 : s.heap.IsList a xs) (hl2 : s.heap.IsTuple b ys)
    (h : ∀ h', ZSt s.heap.objs.size a b n m 0 h' → (∀ c o, s.heap.get? c = some o → h'.get? c = some o) → Q (.ref (s.heap.objs.size + 4)) { s with heap := h' }) :
    wpAny (model prog w) A (call (.type "zip") [.ref a, .ref b]) Q E s := by
  refine callType_new F.called_zip (by decide) (F.typeCall_zip_2 _ _) (F.newCall_zip_2 _ _) (fun obj => F.args_object_init_3 obj _ _)
    F.entry_zip_new (zx_new a b xs ys) ⟨hl1, hl2, ?_⟩
  have s1 : (zx1 s.heap a).objs.size = s.heap.objs.size + 1 := Heap.size_push ..
  have s2 : (zx2 s.heap a b).objs.size = s.heap.objs.size + 2 := (Heap.size_push ..).trans (by rw [s1])
  have s3 : (zx3 s.heap a b).objs.size = s.heap.objs.size + 3 := (Heap.size_push ..).trans (by rw [s2])
  have s4 : (zx4 s.heap a b).objs.size = s.heap.objs.size + 4 := (Heap.size_push ..).trans (by rw [s3])
  have k5 : ∀ {c o}, (zx4 s.heap a b).get? c = some o → (zx5 s.heap a b).get? c = some o := fun e => Heap.get?_push_of_some _ e
  have k4 : ∀ {c o}, (zx3 s.heap a b).get? c = some o → (zx5 s.heap a b).get? c = some o := fun e => k5 (Heap.get?_push_of_some _ e)
  have k3 : ∀ {c o}, (zx2 s.heap a b).get? c = some o → (zx5 s.heap a b).get? c = some o := fun e => k4 (Heap.get?_push_of_some _ e)
  have k2 : ∀ {c o}, (zx1 s.heap a).get? c = some o → (zx5 s.heap a b).get? c = some o := fun e => k3 (Heap.get?_push_of_some _ e)
  have g5 : (zx5 s.heap a b).get? (zx4 s.heap a b).objs.size = some _ := Heap.get?_push_size _ rfl
  have g4 : (zx5 s.heap a b).get? (zx3 s.heap a b).objs.size = some _ := k5 (Heap.get?_push_size _ rfl)
  have g3 : (zx5 s.heap a b).get? (zx2 s.heap a b).objs.size = some _ := k4 (Heap.get?_push_size _ rfl)
  have g2 : (zx5 s.heap a b).get? (zx1 s.heap a).objs.size = some _ := k3 (Heap.get?_push_size _ rfl)
  have g1 : (zx5 s.heap a b).get? s.heap.objs.size = some _ := k2 (Heap.get?_push_size _ rfl)
  show _ ∧ _
  rw [s2, s3, s4] at g5
  rw [s3] at g4
  rw [s1, s2] at g3
  rw [s1] at g2
  rw [s4]
  exact ⟨⟨_, g5, rfl⟩, h _ ⟨g5, g3, ⟨_, _, g4⟩, ⟨_, g1, rfl, rfl⟩, ⟨_, g2, rfl, rfl⟩, Nat.zero_le _, Nat.zero_le _⟩ fun c o e => k2 (Heap.get?_push_of_some _ e)⟩
end
def iZipX (K : PySem.W.Frag) (ta : TA) : TI := fun σ H R => ta σ H fun vs H1 => ∃ a b xs ys, vs = [.ref a, .ref b] ∧ SqL K H1 a xs ∧ SqT K H1 b ys ∧ R (ItzX K a b xs.length ys.length) H1
theorem pi_zipX {X : Cx} {e e2 : Expr} {ta : TA} {p pos tpos : Pos} {elts : List Expr} {kk : Nat} (hg : Gl X "zip") (hm : X.mg "zip" = none) (ha : PA X [e, e2] ta)
    (hs : starEach [e, e2] X.env = (false, eval e X.env) :: starEach [e2] X.env := by rfl) (hpl : (backTo pos (starEach [e2] X.env)).any (·.1) = false := by rfl) :
    PI X (.Tuple elts kk tpos) (.Call (.Name "zip" p) [e, e2] [] pos) (iZipX X.K ta) := ⟨fun pins s σ H R I h => by
  refine Call_ (ld_blt I hg hm boot_zip (callWith_type1 (thn (ha.run pos pins s σ H _ I h) fun us s1 ⟨vs, H1, I1, r1, q1⟩ => ?_) hs hpl))
  obtain ⟨a, b, xs, ys, rfl, hqx, hqy, q⟩ := q1
  obtain ⟨u1, r, rfl, e1, r2⟩ : ∃ u r, us = u :: r ∧ RelV (.ref a) u ∧ Vals [.ref b] r := by
    cases r1 with
    | cons x y => exact ⟨_, _, rfl, x, y⟩
  obtain ⟨u2, rfl, e2⟩ := vals1 r2
  cases e1
  cases e2
  obtain ⟨its, rv, p1, _⟩ := I1.list hqx
  obtain ⟨its2, rv2, p2, _⟩ := I1.tuple hqy
  obtain ⟨o2, ho2, _⟩ := id p2
  refine call_zipX xs.length ys.length p1.isList p2 fun h' st hk => ?_
  have I2 : Inv X pins σ H1 { s1 with heap := h' } := I1.kept (t' := s1.toks) hk
  refine wpAny_pyIter_zip st.zip ⟨_, _, _, _, H1, rfl, I2, turn_zipX p1.lt (Heap.lt_size ho2), st, fun c hc => ?_, q⟩
  have hle : s1.heap.objs.size ≤ c := by
    rcases fp5 hc with rfl | rfl | rfl | rfl | rfl <;> omega
  exact I1.fpOk hle (I1.hok.fresh hle)⟩
end Mi
/-! zip of lists and tuples, whatever they are. -/
namespace Mi
open PySem L2
def mZipX {T : Type} (fa fb : ME T) : Env → T → Option (List PyData × T) := fun ρ t => do
  let (r1, t1) ← fa ρ t
  let (r2, t2) ← fb ρ t1
  let x ← still ρ r1
  let y ← still ρ r2
  match x, y with
  | .list xs, .tuple ys => some (zipL xs ys, t2)
  | _, _ => none
section
variable {Γ : Gm} {X : Cx} {a b : Expr} {pos p : Pos} {fa fb : ME Γ.T}
theorem pi_zipXD {elts : List Expr} {kk : Nat} {tpos : Pos} (hK : X.K = Γ.K) (hg : Gl X "zip") (hm : X.mg "zip" = none) (ha : PE X a (den Γ fa)) (hb : PE X b (den Γ fb))
    (hs : starEach [a, b] X.env = (false, eval a X.env) :: starEach [b] X.env := by rfl) (hs2 : starEach [b] X.env = (false, eval b X.env) :: starEach [] X.env := by rfl) (hpl : (backTo pos (starEach [b] X.env)).any (·.1) = false := by rfl) :
    PI X (.Tuple elts kk tpos) (.Call (.Name "zip" p) [a, b] [] pos) (denI Γ (mZipX fa fb)) := pi_w (pi_zipX hg hm (pa_cons ha (pa_cons hb pa_nil hs2) hs) hs hpl) fun σ H Rr => by
  rintro ⟨F, ρ, t, items, t', R, e, q⟩
  obtain ⟨⟨r1, t1⟩, e1, e⟩ := bind_some e
  obtain ⟨⟨r2, t2⟩, e2, e⟩ := bind_some e
  obtain ⟨x, ex, e⟩ := bind_some e
  obtain ⟨y, ey, e⟩ := bind_some e
  have fin : ∀ {F' H' : Hp} {t3 : Γ.T} {x y : PyData} {u v : V}, Fin Γ F' H' t3 → Dq Γ.K F' u x → Dq Γ.K F' v y → ∀ T, H' T = none → ∃ F'', Ext [] F' H' F'' (upd H' T (.tup [u, v])) ∧ Dq Γ.K F'' (.ref T) (.tuple [x, y]) := fun {F' H' t3 x y u v} R' k k' T hT =>
    ⟨_, Ext.keep R'.ex hT, .tup (.of upd_same) (.cons (k.mono (Ext.keep (S := []) R'.ex hT).f) (.cons (k'.mono (Ext.keep (S := []) R'.ex hT).f) .nil))⟩
  refine ⟨F, ρ, t, r1, t1, R, e1, fun v1 F1 H1 R1 x1 k1 => ⟨F1, ρ, t1, r2, t2, R1, e2, fun v2 F2 H2 R2 x2 k2 => ?_⟩⟩
  have s1 := still_ok ex R2 (k1.mono x2.f)
  have s2 := still_ok ey R2 k2
  split at e
  · rename_i xs ys _
    cases e
    have listy : ∀ {F' H' : Hp} {t3 : Γ.T}, Same F2 F' → Fin Γ F' H' t3 → ∃ q vs, v1 = .ref q ∧ DqA Γ.K F' vs xs ∧ SqL Γ.K H' q vs := fun {F' H' t3} sm R' => by
      obtain ⟨q1, vs1, z, g1, j1⟩ := sq_of R'.ex (stays sm R' s1 R2.toFin) (show itemsOf (.list xs) = some xs from rfl)
      rcases j1 with ⟨_, j1⟩ | ⟨⟨es, z⟩, _⟩
      · exact ⟨q1, vs1, z, g1, j1⟩
      · cases z
    have tupley : ∀ {F' H' : Hp} {t3 : Γ.T}, Same F2 F' → Fin Γ F' H' t3 → ∃ q vs, v2 = .ref q ∧ DqA Γ.K F' vs ys ∧ SqT Γ.K H' q vs := fun {F' H' t3} sm R' => by
      obtain ⟨q1, vs1, z, g1, j1⟩ := sq_of R'.ex (stays sm R' s2 R2.toFin) (show itemsOf (.tuple ys) = some ys from rfl)
      rcases j1 with ⟨⟨es, z⟩, _⟩ | ⟨_, j1⟩
      · cases z
      · exact ⟨q1, vs1, z, g1, j1⟩
    obtain ⟨q1, vs1, rfl, g1, j1⟩ := listy (Same.refl F2) R2.toFin
    obtain ⟨q2, vs2, rfl, g2, j2⟩ := tupley (Same.refl F2) R2.toFin
    rw [hK]
    refine ⟨q1, q2, vs1, vs2, rfl, j1, j2, q F2 H2 _ R2 (x1.then x2 R2) fun i F' H' t3 s R' => ?_⟩
    obtain ⟨p1, us1, z1, h1, hq1⟩ := listy s R'
    obtain ⟨p2, us2, z2, h2, hq2⟩ := tupley s R'
    cases z1
    cases z2
    have e1 : us1.length = vs1.length := by rw [h1.length, g1.length]
    have e2 : us2.length = vs2.length := by rw [h2.length, g2.length]
    refine ⟨fun d hd => ?_, fun hi => ⟨us1, us2, ⟨hq1, e1⟩, ⟨hq2, e2⟩, ?_⟩⟩
    · obtain ⟨a, b, ha, hb, rfl⟩ := zipL_at hd
      obtain ⟨u, hu, ku⟩ := h1.get ha
      obtain ⟨w, hw, kw⟩ := h2.get hb
      refine ⟨⟨us1, us2, u, w, ⟨hq1, e1⟩, ⟨hq2, e2⟩, hu, hw⟩, fun x' H'' yl => ?_⟩
      obtain ⟨T, u', w', rfl, hT, rfl, y1, y2⟩ := yl
      have e1 := y1 _ hq1
      have e2 := y2 _ hq2
      rw [hu] at e1
      rw [hw] at e2
      cases e1
      cases e2
      exact fin R' ku kw T hT
    · rw [zipL_len] at hi
      rw [g1.length, g2.length]
      omega
  · cases e
def mZip2 {T : Type} (fa fb : ME T) : Env → T → Option (List PyData × T) := fun ρ t => match mZip fa fb ρ t with
  | some r => some r
  | none => mZipX fa fb ρ t
theorem pi_zip2D {elts : List Expr} {kk : Nat} {tpos : Pos} (hK : X.K = Γ.K) (hg : Gl X "zip") (hm : X.mg "zip" = none) (ha : PE X a (den Γ fa)) (hb : PE X b (den Γ fb))
    (hs : starEach [a, b] X.env = (false, eval a X.env) :: starEach [b] X.env := by rfl) (hs2 : starEach [b] X.env = (false, eval b X.env) :: starEach [] X.env := by rfl) (hpl : (backTo pos (starEach [b] X.env)).any (·.1) = false := by rfl) :
    PI X (.Tuple elts kk tpos) (.Call (.Name "zip" p) [a, b] [] pos) (denI Γ (mZip2 fa fb)) := pi_w (pi_or (pi_zipD hK hg hm ha hb hs hs2 hpl) (pi_zipXD hK hg hm ha hb hs hs2 hpl)) fun σ H Rr => by
  rintro ⟨F, ρ, t, items, t', R, e, q⟩
  unfold mZip2 at e
  split at e
  · rename_i r er
    cases e
    exact .inl ⟨F, ρ, t, items, t', R, er, q⟩
  · exact .inr ⟨F, ρ, t, items, t', R, e, q⟩
end
section
variable {T : Type} {ρ : Env} {t : T} {fa fb : ME T} {QL : List PyData → T → Prop}
theorem i_zip2 (h : Ew fa ρ t fun x t1 => Ew fb ρ t1 fun y t2 => ∃ xs ys, ((x = .list xs ∧ y = .list ys) ∨ (x = .tuple xs ∧ y = .tuple ys) ∨ (x = .list xs ∧ y = .tuple ys)) ∧ QL (zipL xs ys) t2) : Eg (mZip2 fa fb) ρ t QL := by
  obtain ⟨r1, t1, x, e1, ex, r2, t2, y, e2, ey, xs, ys, hc, q⟩ := h
  refine ⟨_, t2, ?_, q⟩
  have stepZ : ∀ g : T → PyData → PyData → Option (List PyData × T), (do
      let (r1, t1) ← fa ρ t
      let (r2, t2) ← fb ρ t1
      let x ← still ρ r1
      let y ← still ρ r2
      g t2 x y) = g t2 x y := fun g => by
    rw [e1]
    show (fb ρ t1 >>= _) = _
    rw [e2]
    show (still ρ r1 >>= _) = _
    rw [ex]
    show (still ρ r2 >>= _) = _
    rw [ey]
    rfl
  unfold mZip2
  rcases hc with ⟨rfl, rfl⟩ | ⟨rfl, rfl⟩ | ⟨rfl, rfl⟩
  · rw [show mZip fa fb ρ t = some (zipL xs ys, t2) from stepZ fun t2 x y => match x, y with
      | .list xs, .list ys => some (zipL xs ys, t2)
      | .tuple xs, .tuple ys => some (zipL xs ys, t2)
      | _, _ => none]
  · rw [show mZip fa fb ρ t = some (zipL xs ys, t2) from stepZ fun t2 x y => match x, y with
      | .list xs, .list ys => some (zipL xs ys, t2)
      | .tuple xs, .tuple ys => some (zipL xs ys, t2)
      | _, _ => none]
  · rw [show mZip fa fb ρ t = none from stepZ fun t2 x y => match x, y with
      | .list xs, .list ys => some (zipL xs ys, t2)
      | .tuple xs, .tuple ys => some (zipL xs ys, t2)
      | _, _ => none]
    exact stepZ fun t2 x y => match x, y with
      | .list xs, .tuple ys => some (zipL xs ys, t2)
      | _, _ => none
theorem zz2_L {xs ys : List PyData} {P : List PyData → List PyData → Prop} (q : P xs ys) : ∃ as bs, ((PyData.list xs = .list as ∧ PyData.list ys = .list bs) ∨ (PyData.list xs = .tuple as ∧ PyData.list ys = .tuple bs) ∨ (PyData.list xs = .list as ∧ PyData.list ys = .tuple bs)) ∧ P as bs := ⟨xs, ys, .inl ⟨rfl, rfl⟩, q⟩
theorem zz2_T {xs ys : List PyData} {P : List PyData → List PyData → Prop} (q : P xs ys) : ∃ as bs, ((PyData.tuple xs = .list as ∧ PyData.tuple ys = .list bs) ∨ (PyData.tuple xs = .tuple as ∧ PyData.tuple ys = .tuple bs) ∨ (PyData.tuple xs = .list as ∧ PyData.tuple ys = .tuple bs)) ∧ P as bs := ⟨xs, ys, .inr (.inl ⟨rfl, rfl⟩), q⟩
theorem zz2_X {xs ys : List PyData} {P : List PyData → List PyData → Prop} (q : P xs ys) : ∃ as bs, ((PyData.list xs = .list as ∧ PyData.tuple ys = .list bs) ∨ (PyData.list xs = .tuple as ∧ PyData.tuple ys = .tuple bs) ∨ (PyData.list xs = .list as ∧ PyData.tuple ys = .tuple bs)) ∧ P as bs := ⟨xs, ys, .inr (.inr ⟨rfl, rfl⟩), q⟩
end
end Mi
/-! xs[i], y = d, e; sum of a tuple. -/
namespace Mi
open PySem L2 PySem.Spec PyProof.Rows
section
variable {Γ : Gm} {X : Cx} {a b o k : Expr} {es : List Expr} {pos q2 : Pos} {fa fb fk : ME Γ.T}
def denH (Γ : Gm) (g : PyData → Env → Γ.T → Option (Env × Γ.T)) : TG := fun v σ H Q => ∃ F ρ t d ρ' t', Rep Γ F H σ ρ t ∧ Dq Γ.K F v d ∧ g d ρ t = some (ρ', t') ∧ ∀ σ' F' H', Rep Γ F' H' σ' ρ' t' → Same F F' → Q σ' H'
def denHs (Γ : Gm) (g : List PyData → Env → Γ.T → Option (Env × Γ.T)) : TGs := fun vs σ H Q => ∃ F ρ t ds ρ' t', Rep Γ F H σ ρ t ∧ DqA Γ.K F vs ds ∧ g ds ρ t = some (ρ', t') ∧ ∀ σ' F' H', Rep Γ F' H' σ' ρ' t' → Same F F' → Q σ' H'
def hN {T : Type} (i : Nat) : PyData → Env → T → Option (Env × T) := fun d ρ t => some (ρ.set i (some (.fro d)), t)
def hIx {T : Type} (i : Nat) (fk : ME T) : PyData → Env → T → Option (Env × T) := fun d ρ t => match fk ρ t with
  | some (.fro (.int k), t1) => match ρ[i]? with
    | some (some (.own (.list ds))) => match ixN ds.length k with
      | some n => some (ρ.set i (some (.own (.list (ds.set n d)))), t1)
      | none => none
    | _ => none
  | _ => none
def hT {T : Type} (g : List PyData → Env → T → Option (Env × T)) (n : Nat) : PyData → Env → T → Option (Env × T) := fun d ρ t => match d with
  | .tuple ds => if ds.length = n then g ds ρ t else none
  | _ => none
def hs0 {T : Type} : List PyData → Env → T → Option (Env × T) := fun ds ρ t => match ds with
  | [] => some (ρ, t)
  | _ => none
def hs1 {T : Type} (g : PyData → Env → T → Option (Env × T)) (h : List PyData → Env → T → Option (Env × T)) : List PyData → Env → T → Option (Env × T) := fun ds ρ t => match ds with
  | d :: r => (g d ρ t).bind fun z => h r z.1 z.2
  | [] => none
theorem ph_nm {i : Nat} (h : PG X a (gName i)) : PG X a (denH Γ (hN i)) := pg_w h fun v σ H Q => by
  rintro ⟨F, ρ, t, d, ρ', t', R, k, e, q⟩
  cases e
  exact q _ F H (R.setF k) (Same.refl F)
theorem ph_ix {i : Nat} (ho : PE X o (tVar i)) (hi : PE X k (den Γ fk))
    (hx : ∀ v, assign (.Subscript o k q2) X.env v = (do
      let ov ← holding [v] (eval o X.env)
      let iv ← holding [v, ov] (eval k X.env)
      standAt q2
      holding [v, ov, iv] (setItem ov iv v)
      release [v, ov, iv] []) := by intro _; rfl) : PG X (.Subscript o k q2) (denH Γ (hIx i fk)) := pg_w (pg_sub ho hi set_list hx) fun v σ H Q => by
  rintro ⟨F, ρ, t, d, ρ', t', R, kd, e, q⟩
  unfold hIx at e
  split at e
  · rename_i z t1 e1
    split at e
    · rename_i ds e3
      split at e
      · rename_i n e4
        cases e
        obtain ⟨p1, h1, _⟩ := R.slots i _ e3
        refine ⟨_, h1, F, ρ, t, _, _, R, e1, fun y F1 H1 R1 x1 k1 => ?_⟩
        cases (show Dq Γ.K F1 y (.int z) from k1)
        obtain ⟨p2, g1, ⟨g2, ws2, g3, g4⟩, _, _⟩ := R1.slots i _ e3
        rw [h1] at g1
        cases g1
        refine ⟨p1, ws2, z, n, rfl, rfl, g3, by rw [g4.length]; exact e4, ?_⟩
        exact q σ F1 _ (R1.turn e3 h1 (show Own Γ.K F1 (upd H1 p1 (.lst (ws2.set n v))) p1 (.list (ds.set n d)) from ⟨g2, _, upd_same, DqA.put (kd.mono x1.f) n g4⟩)) x1.f
      · cases e
    · cases e
  · cases e
theorem phs_0 : PGs X [] (denHs Γ hs0) := pgs_w pgs_nil fun v σ H Q => by
  rintro ⟨F, ρ, t, d, ρ', t', R, k, e, q⟩
  unfold hs0 at e
  split at e
  · cases e
    cases k
    exact ⟨rfl, q _ F H R (Same.refl F)⟩
  · cases e
theorem phs_1 {g : PyData → Env → Γ.T → Option (Env × Γ.T)} {h : List PyData → Env → Γ.T → Option (Env × Γ.T)} (h1 : PG X a (denH Γ g)) (h2 : PGs X es (denHs Γ h)) (hs : (assignEach (a :: es) X.env).map (·.2) = assign a X.env :: (assignEach es X.env).map (·.2) := by rfl) : PGs X (a :: es) (denHs Γ (hs1 g h)) := pgs_w (pgs_cons h1 h2 hs) fun v σ H Q => by
  rintro ⟨F, ρ, t, ds, ρ', t', R, k, e, q⟩
  unfold hs1 at e
  split at e
  · cases k with
    | cons k1 k2 =>
      obtain ⟨⟨ρ1, t1⟩, e1, e⟩ := bind_some e
      exact ⟨_, _, rfl, F, ρ, t, _, ρ1, t1, R, k1, e1, fun σ1 F1 H1 R1 s1 => ⟨F1, ρ1, t1, _, ρ', t', R1, k2.mono s1, e, fun σ2 F2 H2 R2 s2 => q σ2 F2 H2 R2 (s1.trans s2)⟩⟩
  · cases e
theorem ph_tp {g : List PyData → Env → Γ.T → Option (Env × Γ.T)} {k n : Nat} (hc : X.calm = true) (hK : X.K = Γ.K) (h : PGs X es (denHs Γ g)) (hn : (assignEach es X.env).length = n := by rfl) (hst : (assignEach es X.env).findIdx? (·.1) = none := by rfl) : PG X (.Tuple es k pos) (denH Γ (hT g n)) := pg_w (pg_tup hc h hn hst) fun v σ H Q => by
  rintro ⟨F, ρ, t, d, ρ', t', R, k, e, q⟩
  unfold hT at e
  split at e
  · split at e
    · rename_i hl
      cases k with
      | tup h1 k1 =>
        refine ⟨_, _, rfl, ?_, by rw [k1.length]; exact hl, F, ρ, t, _, ρ', t', R, k1, e, q⟩
        rw [hK]
        exact same_t R.ex h1
    · cases e
  · cases e
/-- target = e, what is kept at items too -/
def mAsgH {T : Type} (f : ME T) (g : PyData → Env → T → Option (Env × T)) : MS T := fun ρ t => match f ρ t with
  | some (.fro d, t1) => match g d ρ t1 with
    | some (ρ', t') => some (.nx ρ', t')
    | none => none
  | _ => none
theorem ps_asgH {tg : Expr} {g : PyData → Env → Γ.T → Option (Env × Γ.T)} (h : PE X a (den Γ fa)) (hg : PG X tg (denH Γ g)) (hs : swapsWithSole [tg] a pos.line X.env = pure false := by rfl) (hw : swappedStores [tg] a X.env = pure none := by rfl) (h1 : (assignEach [tg] X.env).map (·.2) = [assign tg X.env] := by rfl) : PS X (.Assign [tg] a pos) (denS Γ (mAsgH fa g)) := ps_w (ps_asg h hg hs hw h1) fun D σ H => by
  rintro ⟨F, ρ, t, r, t', R, e, q⟩
  unfold mAsgH at e
  split at e
  · rename_i d t1 e1
    split at e
    · rename_i ρ' t2 e2
      cases e
      exact ⟨F, ρ, t, _, _, R, e1, fun v F1 H1 R1 x1 k1 => ⟨F1, ρ, t1, d, ρ', _, R1, k1, e2, fun σ' F' H' R' s' => q σ' F' H' R' (x1.f.trans s')⟩⟩
    · cases e
  · cases e
end
section
variable {T : Type} {ρ : Env} {t : T} {f fk : ME T} {N : Env → T → Prop} {R : PyData → T → Prop} {B C : Env → T → Prop}
/-- what a store leads to -/
def Eh {T : Type} (g : Option (Env × T)) (Q : Env → T → Prop) : Prop := ∃ ρ' t', g = some (ρ', t') ∧ Q ρ' t'
theorem s_asgH {g : PyData → Env → T → Option (Env × T)} (h : Ef f ρ t fun d t1 => Eh (g d ρ t1) N) : Es (mAsgH f g) ρ t N R B C := by
  obtain ⟨d, t1, e, ρ', t', e2, q⟩ := h
  refine ⟨.nx ρ', t', ?_, q⟩
  unfold mAsgH
  rw [e]
  dsimp only
  rw [e2]
theorem h_T {g : List PyData → Env → T → Option (Env × T)} {ds : List PyData} {n : Nat} {Q : Env → T → Prop} (hn : ds.length = n) (h : Eh (g ds ρ t) Q) : Eh (hT g n (.tuple ds) ρ t) Q := by
  obtain ⟨ρ', t', e, q⟩ := h
  exact ⟨ρ', t', (if_pos hn).trans e, q⟩
theorem h_0 {Q : Env → T → Prop} (q : Q ρ t) : Eh (hs0 [] ρ t) Q := ⟨ρ, t, rfl, q⟩
theorem h_1 {g : PyData → Env → T → Option (Env × T)} {h : List PyData → Env → T → Option (Env × T)} {d : PyData} {ds : List PyData} {Q : Env → T → Prop} (h1 : Eh (g d ρ t) fun ρ1 t1 => Eh (h ds ρ1 t1) Q) : Eh (hs1 g h (d :: ds) ρ t) Q := by
  obtain ⟨ρ1, t1, e1, ρ', t', e2, q⟩ := h1
  refine ⟨ρ', t', ?_, q⟩
  show (g d ρ t).bind _ = _
  rw [e1]
  exact e2
theorem h_N {i : Nat} {d : PyData} {Q : Env → T → Prop} (q : Q (ρ.set i (some (.fro d))) t) : Eh (hN i d ρ t) Q := ⟨_, _, rfl, q⟩
theorem h_Ix {i : Nat} {d : PyData} {Q : Env → T → Prop} (h : Ef fk ρ t fun z t1 => ∃ (n : Nat) (ds : List PyData), z = .int (n : Int) ∧ ρ[i]? = some (some (.own (.list ds))) ∧ n < ds.length ∧ Q (ρ.set i (some (.own (.list (ds.set n d))))) t1) : Eh (hIx i fk d ρ t) Q := by
  obtain ⟨z, t1, e, n, ds, rfl, e2, hn, q⟩ := h
  refine ⟨_, t1, ?_, q⟩
  unfold hIx
  rw [e]
  dsimp only
  rw [e2]
  dsimp only
  have : ixN ds.length (n : Int) = some n := by
    unfold ixN
    rw [if_pos (by omega), if_pos (by omega), Int.toNat_natCast]
  rw [this]
end
/-! ### sum of a tuple -/
def sumE : List PyData → Option PyData
  | [.tuple xs] => (intsOf xs).map fun ns => .int ns.sum
  | xs => sumD xs
theorem cr_sumT {X : Cx} (hc : X.calm = true) : CallR X (.builtin "sum") (fun vs H Q => ∃ (a : Addr) (ns : List Int), vs = [V.ref a] ∧ SqT X.K H a (ns.map V.int) ∧ Q (.int ns.sum) H) := by
  intro pins s σ H vs us Q I r h
  obtain ⟨a, ns, rfl, hs, q⟩ := h
  obtain ⟨its, rv, hl, _⟩ := I.tuple hs
  rw [Vals.ref1 r]
  obtain ⟨xs, e⟩ := rv.ints.allInts.items
  have hn : numsOf (intItems xs).toList = ns := by rw [← e]; exact rv.ints.numsOf
  rw [nums_intItems] at hn
  rw [e] at hl
  refine PySem.W.ktm_sumG (I.ok.hd hc) hl fun h' tk t' hk => ?_
  rw [preSum_eq, List.take_of_length_le (by simp), hn]
  exact ⟨.int _, H, I.kept hk, ⟨_, rfl⟩, q⟩
theorem call_sumEE {X : Cx} (hc : X.calm = true) : CallR X (.builtin "sum") (rC X.K sumE) := by
  rintro pins s σ H vs us Q I r ⟨F, xs, z, sm, dx, e, q⟩
  unfold sumE at e
  split at e
  · obtain ⟨v, rfl, l, ws, rfl, h1, k1⟩ := f1 dx
    cases z2 : intsOf _ with
    | none => rw [z2] at e; cases e
    | some ns =>
      rw [z2] at e
      cases e
      have ew := intsOf_dq k1 z2
      subst ew
      exact cr_sumT hc pins s σ H _ us Q I r ⟨l, ns, rfl, same_t sm h1, q _ F H (Ext.refl sm) (.int _)⟩
  · exact call_sumDD hc pins s σ H vs us Q I r ⟨F, _, z, sm, dx, e, q⟩
end Mi
/-! x.extend(a list). -/
namespace Mi
open PySem L2 PySem.Spec PyProof.Rows
section
variable {Γ : Gm} {X : Cx} {a : Expr} {pos : Pos} {fa : ME Γ.T}
/-- x.extend(e) -/
def mExt {T : Type} (i : Nat) (f : ME T) : MS T := fun ρ t => match f ρ t with
  | some (.fro (.list es), t') => match ρ[i]? with
    | some (some (.own (.list ds))) => if ds.length + es.length ≤ sizeLine then some (.nx (ρ.set i (some (.own (.list (ds ++ es))))), t') else none
    | _ => none
  | _ => none
theorem ps_extD {i : Nat} {o : Expr} {apos cpos : Pos} (ho : PE X o (tVar i)) (ha : PE X a (den Γ fa)) (hs1 : starEach [a] X.env = (false, eval a X.env) :: starEach [] X.env := by rfl) (hbase : attributeBase o "extend" X.env (eval o X.env) = eval o X.env := by rfl)
    (hfew : ((backTo cpos (starEach [a] X.env)).all (fun x => !x.1) && (backToKw cpos (keywordEach [] X.env)).all (fun x => x.1.isSome) && decide ([a].length + ([] : List Keyword).length + (if ([] : List Keyword).isEmpty then 0 else 1) < 30)) = true := by rfl)
    (hline : (apos.endLine == cpos.line) = true := by rfl) (hplain : (backTo cpos (starEach [] X.env)).any (·.1) = false := by rfl)
    (hs : swapsWith (.Call (.Attribute o "extend" apos) [a] [] cpos) none pos.line X.env = pure false := by rfl) : PS X (.Expr (.Call (.Attribute o "extend" apos) [a] [] cpos) pos) (denS Γ (mExt i fa)) := by
  refine ps_w (ps_expr (pe_bm PySem.F.plainAttrs_list PySem.F.slot_list_extend PySem.F.type_list_extend mt_extend ho (pa_cons ha pa_nil hs1) hbase hfew hline hs1 hplain) hs) fun D σ H => ?_
  rintro ⟨F, ρ, t, r, t', R, e, q⟩
  unfold mExt at e
  split at e
  · rename_i es t1 e1
    split at e
    · rename_i ds e2
      split at e
      · rename_i hz
        cases e
        obtain ⟨p1, h1, ⟨h2, ws, h3, h4⟩, old, nS⟩ := R.slots i _ e2
        refine ⟨_, h1, .inl ⟨rfl, ws, .of h3⟩, F, ρ, t, _, _, R, e1, fun v F1 H1 R1 x1 k1 => ?_⟩
        obtain ⟨p2, g1, ⟨g2, ws2, g3, g4⟩, _, _⟩ := R1.slots i _ e2
        rw [h1] at g1
        cases g1
        cases (show Dq Γ.K F1 v (.list es) from k1) with
        | lst hb kb =>
          refine ⟨p1, _, ws2, _, rfl, rfl, g3, R1.ex _ _ hb, by rw [g4.length, kb.length]; exact hz, ?_⟩
          exact q σ F1 _ (R1.turn e2 h1 ⟨g2, _, upd_same, g4.append kb⟩) x1.f
      · cases e
    · cases e
  · cases e
end
section
variable {T : Type} {ρ : Env} {t : T} {i : Nat} {f : ME T} {N : Env → T → Prop} {R : PyData → T → Prop} {B C : Env → T → Prop}
theorem s_ext (h : Ef f ρ t fun d t1 => ∃ es ds, d = .list es ∧ ρ[i]? = some (some (.own (.list ds))) ∧ ds.length + es.length ≤ sizeLine ∧ N (ρ.set i (some (.own (.list (ds ++ es))))) t1) : Es (mExt i f) ρ t N R B C := by
  obtain ⟨d, t1, e, es, ds, rfl, e1, hz, q⟩ := h
  refine ⟨.nx _, t1, ?_, q⟩
  unfold mExt
  rw [e]
  dsimp only
  rw [e1]
  dsimp only
  rw [if_pos hz]
end
end Mi
/-! The tray that is a list: [far, a number, a number]. -/
namespace Mi
open PySem L2
namespace LT
abbrev keys : List Str := ["1", "2"]
def lents (g : Addr) (es : List (Str × Int)) : List V := .ref g :: es.map fun e => V.int e.2
def TrAt (fk : Str) (ta g : Addr) (t : Tr) (H : Hp) : Prop := (H ta = some (.lst (lents g t.es)) ∧ t.es.map Prod.fst = keys) ∧ H g = some (.lst (t.far.map .int))
theorem two {es : List (Str × Int)} (h : es.map Prod.fst = keys) : ∃ a b : Int, es = [(("1" : Str), a), (("2" : Str), b)] := by
  match es, h with
  | [(x, a), (y, b)], h =>
    cases h
    exact ⟨a, b, rfl⟩
theorem k12 : ¬ (("1" : Str) = ("2" : Str)) := by decide
theorem k21 : ¬ (("2" : Str) = ("1" : Str)) := by decide
def At (k : Str) (n : Nat) : Prop := (k = "1" ∧ n = 1) ∨ (k = "2" ∧ n = 2)
theorem get_at {es : List (Str × Int)} {g : Addr} {k : Str} {n : Nat} {i : Int} (h : es.map Prod.fst = keys) (hk : At k n) (e : tget es k = some i) : (lents g es)[n]? = some (.int i) := by
  obtain ⟨a, b, rfl⟩ := two h
  rcases hk with ⟨rfl, rfl⟩ | ⟨rfl, rfl⟩
  · unfold tget at e
    rw [if_pos rfl] at e
    cases e
    rfl
  · unfold tget at e
    rw [if_neg k12] at e
    unfold tget at e
    rw [if_pos rfl] at e
    cases e
    rfl
theorem put_at {es : List (Str × Int)} {g : Addr} {k : Str} {n : Nat} {i : Int} (h : es.map Prod.fst = keys) (hk : At k n) : (lents g es).set n (.int i) = lents g (tput es k i) ∧ (tput es k i).map Prod.fst = keys := by
  obtain ⟨a, b, rfl⟩ := two h
  rcases hk with ⟨rfl, rfl⟩ | ⟨rfl, rfl⟩
  · have e : tput [(("1" : Str), a), (("2" : Str), b)] "1" i = [(("1" : Str), i), (("2" : Str), b)] := by
      unfold tput tput tput
      rw [if_pos rfl, if_neg k21]
    rw [e]
    exact ⟨rfl, rfl⟩
  · have e : tput [(("1" : Str), a), (("2" : Str), b)] "2" i = [(("1" : Str), a), (("2" : Str), i)] := by
      unfold tput tput tput
      rw [if_pos rfl, if_neg k12]
    rw [e]
    exact ⟨rfl, rfl⟩
theorem len_at {es : List (Str × Int)} {g : Addr} (h : es.map Prod.fst = keys) : (lents g es).length = 3 := by
  obtain ⟨a, b, rfl⟩ := two h
  rfl
def Gt (K : PySem.W.Frag) (fk : Str) (ta g : Addr) (F H : Hp) : Gm :=
  { K := K, S := [ta, g], T := Tr, In := TrAt fk ta g, loc := fun t H H' h q => ⟨⟨by rw [h ta (by simp)]; exact q.1.1, q.1.2⟩, by rw [h g (by simp)]; exact q.2⟩,
    has := fun t H a ha q => by
      rcases List.mem_cons.mp ha with rfl | ha
      · exact ⟨_, q.1.1⟩
      · cases List.mem_singleton.mp ha
        exact ⟨_, q.2⟩
    F0 := F, H0 := H, ta := fun k => match k with | 0 => .ref ta | _ => .ref g }
section
variable {K : PySem.W.Frag} {fk : Str} {ta g : Addr} {F0 H0 : Hp} {X : Cx} {o a b : Expr} {fo fa : ME Tr} {pos p2 : Pos} {j : Nat} {k : Str}
theorem TrAt.ne {t : Tr} {H : Hp} (h : TrAt fk ta g t H) : ta ≠ g := fun z => by
  obtain ⟨⟨h1, _⟩, h2⟩ := h
  rw [← z, h1] at h2
  unfold lents at h2
  cases hf : t.far with
  | nil => rw [hf] at h2; cases h2
  | cons x r => rw [hf] at h2; cases h2
theorem TrAt.setT {t : Tr} {H : Hp} {es : List (Str × Int)} (h : TrAt fk ta g t H) (hk : es.map Prod.fst = keys) : TrAt fk ta g { t with es := es } (upd H ta (.lst (lents g es))) := ⟨⟨upd_same, hk⟩, by rw [upd_ne h.ne.symm]; exact h.2⟩
theorem TrAt.setF {t : Tr} {H : Hp} {far : List Int} (h : TrAt fk ta g t H) : TrAt fk ta g { t with far := far } (upd H g (.lst (far.map .int))) := ⟨⟨by rw [upd_ne h.ne]; exact h.1.1, h.1.2⟩, upd_same⟩
theorem pe_far (ho : PE X o (den (Gt K fk ta g F0 H0) fo)) (ha : PE X a (den (Gt K fk ta g F0 H0) (mC (.int 0)))) (hs : PlainIx a := by intro _ _; rfl) : PE X (.Subscript o a pos) (den (Gt K fk ta g F0 H0) (mFar fo)) :=
  pe_w (pe_ix ix_list ho ha hs) fun σ H Q => by
    rintro ⟨F, ρ, t, r, t', R, e, q⟩
    unfold mFar at e
    split at e
    · rename_i t1 e1
      cases e
      refine ⟨F, ρ, t, _, _, R, e1, fun v F1 H1 R1 x1 k1 => ⟨F1, ρ, _, .fro (.int 0), _, R1, rfl, fun w F2 H2 R2 x2 k2 => ?_⟩⟩
      cases (show v = V.ref ta from k1)
      cases (show Dq K F2 w (.int 0) from k2)
      exact ⟨ta, _, 0, .ref g, rfl, rfl, .of R2.inn.1.1, atI_nat (j := 0) rfl, q _ F2 H2 R2 (x1.then x2 R2) rfl⟩
    · cases e
theorem pe_tget {n : Nat} (hk : At k n) (ho : PE X o (den (Gt K fk ta g F0 H0) fo)) (ha : PE X a (den (Gt K fk ta g F0 H0) (mC (.int (n : Int))))) (hs : PlainIx a := by intro _ _; rfl) : PE X (.Subscript o a pos) (den (Gt K fk ta g F0 H0) (mTget fk k fo)) :=
  pe_w (pe_ix ix_list ho ha hs) fun σ H Q => by
    rintro ⟨F, ρ, t, r, t', R, e, q⟩
    unfold mTget at e
    split at e
    · rename_i t1 e1
      split at e
      · cases e
      · rename_i hne
        split at e
        · rename_i i e2
          cases e
          refine ⟨F, ρ, t, _, _, R, e1, fun v F1 H1 R1 x1 k1 => ⟨F1, ρ, _, .fro (.int (n : Int)), _, R1, rfl, fun w F2 H2 R2 x2 k2 => ?_⟩⟩
          cases (show v = V.ref ta from k1)
          cases (show Dq K F2 w (.int (n : Int)) from k2)
          exact ⟨ta, _, (n : Int), .int i, rfl, rfl, .of R2.inn.1.1, atI_nat (get_at R2.inn.1.2 hk e2), q _ F2 H2 R2 (x1.then x2 R2) (.int i)⟩
        · cases e
    · cases e
theorem ps_tput {n : Nat} {i : Expr} {q2 : Pos} (hk : At k n) (ho : PE X o (den (Gt K fk ta g F0 H0) fo)) (hi : PE X i (den (Gt K fk ta g F0 H0) (mC (.int (n : Int))))) (ha : PE X a (den (Gt K fk ta g F0 H0) fa))
    (hs : swapsWithSole [.Subscript o i q2] a pos.line X.env = pure false := by rfl) (hw : swappedStores [.Subscript o i q2] a X.env = pure none := by rfl)
    (h1 : (assignEach [.Subscript o i q2] X.env).map (·.2) = [assign (.Subscript o i q2) X.env] := by rfl)
    (hx : ∀ v, assign (.Subscript o i q2) X.env v = (do
      let ov ← holding [v] (eval o X.env)
      let iv ← holding [v, ov] (eval i X.env)
      standAt q2
      holding [v, ov, iv] (setItem ov iv v)
      release [v, ov, iv] []) := by intro _; rfl) : PS X (.Assign [.Subscript o i q2] a pos) (denS (Gt K fk ta g F0 H0) (mTput fk k fo fa)) :=
  ps_w (ps_asg ha (pg_sub ho hi set_list hx) hs hw h1) fun D σ H => by
    rintro ⟨F, ρ, t, r, t', R, e, q⟩
    unfold mTput at e
    split at e
    · rename_i z t1 e1
      split at e
      · rename_i t2 e2
        split at e
        · cases e
        · rename_i hne
          split at e
          · rename_i hz
            cases e
            refine ⟨F, ρ, t, _, _, R, e1, fun v F1 H1 R1 x1 k1 => ⟨F1, ρ, _, _, _, R1, e2, fun w F2 H2 R2 x2 k2 => ⟨F2, ρ, _, .fro (.int (n : Int)), _, R2, rfl, fun y F3 H3 R3 x3 k3 => ?_⟩⟩⟩
            cases (show Dq K F1 v (.int z) from k1)
            cases (show w = V.ref ta from k2)
            cases (show Dq K F3 y (.int (n : Int)) from k3)
            obtain ⟨p1, p2⟩ := put_at (g := g) (i := z) R3.inn.1.2 hk
            obtain ⟨R4, x4⟩ := R3.tray (a := ta) (List.mem_cons_self ..) (TrAt.setT (fk := fk) (es := tput t2.es k z) R3.inn p2)
            have hn : ixN (lents g t2.es).length (n : Int) = some n := by
              rw [len_at R3.inn.1.2]
              rcases hk with ⟨_, rfl⟩ | ⟨_, rfl⟩ <;> decide
            exact ⟨ta, _, (n : Int), n, rfl, rfl, R3.inn.1.1, hn, by rw [p1]; exact q σ F3 _ R4 (((x1.f.trans x2.f).trans x3.f).trans x4.f)⟩
          · cases e
      · cases e
    · cases e
theorem pt_farNe (hu : X.A.units + 64 < cLine) (hK : X.K = K) (ho : PE X o (den (Gt K fk ta g F0 H0) fo)) : PT X (.Compare o [.NotEq] [.List [] p2] pos) (denT (Gt K fk ta g F0 H0) (mFarNe fo)) :=
  pt_w (pt_cmpR (op_neDD hu) ho (pe_lstD (Γ := Gt K fk ta g F0 H0) pa_nilD) rfl) fun σ H Q => by
    rintro ⟨F, ρ, t, r, t', R, e, q⟩
    unfold mFarNe at e
    split at e
    · rename_i t1 e1
      cases e
      refine ⟨F, ρ, t, _, _, R, e1, fun v F1 H1 R1 x1 k1 => ⟨F1, ρ, _, .list [], _, R1, rfl, fun p F2 H2 R2 x2 fr => ?_⟩⟩
      cases (show v = V.ref g from k1)
      rw [hK]
      refine ⟨F2, .list ((Tr.far t').map .int), .list [], _, R2.ex, ⟨g, _, rfl, R2.inn.2, dqa_ints _⟩, fr.own.dv, ne_nil _, fun u F3 H3 x3 k3 => ?_⟩
      cases k3
      refine ⟨_, rfl, ?_⟩
      rw [show ((Tr.far t').map PyData.int).isEmpty = (Tr.far t').isEmpty from by cases Tr.far t' <;> rfl]
      exact q F3 H3 (R2.ext0 x3) ((x1.then x2 R2).then x3.wide (R2.ext0 x3))
    · cases e
theorem pe_popL (ho : PE X o (den (Gt K fk ta g F0 H0) fo)) (hbase : attributeBase o "pop" X.env (eval o X.env) = eval o X.env := by rfl) (hline : (apos.endLine == cpos.line) = true := by rfl) :
    PE X (.Call (.Attribute o "pop" apos) [] [] cpos) (den (Gt K fk ta g F0 H0) (mPopL fo)) :=
  pe_w (pe_bm0 PySem.F.plainAttrs_list PySem.F.slot_list_pop PySem.F.type_list_pop mt_pop ho hbase hline) fun σ H Q => by
    rintro ⟨F, ρ, t, r, t', R, e, q⟩
    unfold mPopL at e
    split at e
    · rename_i t1 e1
      split at e
      · rename_i x e2
        cases e
        refine ⟨F, ρ, t, _, _, R, e1, fun v F1 H1 R1 x1 k1 => ?_⟩
        cases (show v = V.ref g from k1)
        have hg := R1.inn.2
        obtain ⟨R3, x3⟩ := R1.tray (a := g) (by show g ∈ [ta, g]; simp) (TrAt.setF (fk := fk) (far := t1.far.dropLast) R1.inn)
        have ed : ((Tr.far t1).map V.int).dropLast = (Tr.far t1).dropLast.map V.int := (List.map_dropLast ..).symm
        exact ⟨.inl ⟨rfl, _, .of hg⟩, g, _, _, rfl, rfl, hg, by rw [List.length_map, List.getElem?_map, e2]; rfl, by rw [ed]; exact q _ F1 _ R3 (x1.then x3 R3) (.int x)⟩
      · cases e
    · cases e
theorem ps_farApp (ho : PE X o (den (Gt K fk ta g F0 H0) fo)) (ha : PE X a (den (Gt K fk ta g F0 H0) fa)) (hs1 : starEach [a] X.env = (false, eval a X.env) :: starEach [] X.env := by rfl)
    (hbase : attributeBase o "append" X.env (eval o X.env) = eval o X.env := by rfl)
    (hfew : ((backTo cpos (starEach [a] X.env)).all (fun x => !x.1) && (backToKw cpos (keywordEach [] X.env)).all (fun x => x.1.isSome) && decide ([a].length + ([] : List Keyword).length + (if ([] : List Keyword).isEmpty then 0 else 1) < 30)) = true := by rfl)
    (hline : (apos.endLine == cpos.line) = true := by rfl) (hplain : (backTo cpos (starEach [] X.env)).any (·.1) = false := by rfl)
    (hs : swapsWith (.Call (.Attribute o "append" apos) [a] [] cpos) none pos.line X.env = pure false := by rfl) :
    PS X (.Expr (.Call (.Attribute o "append" apos) [a] [] cpos) pos) (denS (Gt K fk ta g F0 H0) (mFarApp fo fa)) :=
  ps_w (ps_expr (pe_bm PySem.F.plainAttrs_list PySem.F.slot_list_append PySem.F.type_list_append mt_append ho (pa_cons ha pa_nil hs1) hbase hfew hline hs1 hplain) hs) fun D σ H => by
    rintro ⟨F, ρ, t, r, t', R, e, q⟩
    unfold mFarApp at e
    split at e
    · rename_i t1 e1
      split at e
      · rename_i x t2 e2
        split at e
        · rename_i hz
          cases e
          refine ⟨F, ρ, t, _, _, R, e1, fun v F1 H1 R1 x1 k1 => ⟨?_, F1, ρ, _, _, _, R1, e2, fun w F2 H2 R2 x2 k2 => ?_⟩⟩
          · cases (show v = V.ref g from k1)
            exact .inl ⟨rfl, _, .of R1.inn.2⟩
          · cases (show v = V.ref g from k1)
            cases (show Dq K F2 w (.int x) from k2)
            obtain ⟨R3, x3⟩ := R2.tray (a := g) (by show g ∈ [ta, g]; simp) (TrAt.setF (fk := fk) (far := t2.far ++ [x]) R2.inn)
            have ed : (Tr.far t2).map V.int ++ [V.int x] = (Tr.far t2 ++ [x]).map V.int := by rw [List.map_append]; rfl
            exact ⟨g, _, _, rfl, rfl, R2.inn.2, by rw [List.length_map]; exact hz, by rw [ed]; exact q σ F2 _ R3 ((x1.f.trans x2.f).trans x3.f)⟩
        · cases e
      · cases e
    · cases e
end
def spT (K : PySem.W.Frag) (fk : Str) (bs : List Bool) (m : Tr → List PyData → Option (PyData × Tr)) : Sp := fun vs H Q _ => ∃ ta g F t ds d t' ws, vs = .ref ta :: ws ∧ Same F H ∧ F ta = none ∧ F g = none ∧ TrAt fk ta g t H ∧ ArgOk K [ta, g] F H bs ws ds ∧ m t ds = some (d, t') ∧
  ∀ v F' H', Ext [ta, g] F H F' H' → F' ta = none → F' g = none → TrAt fk ta g t' H' → Dq K F' v d → Q v H'
theorem entryT_rep {K : PySem.W.Frag} {fk : Str} {ta g : Addr} {t : Tr} {F H : Hp} {bs : List Bool} {vs : List V} {ds : List PyData} {N : List Str} (sm : Same F H) (h1 : F ta = none) (h2 : F g = none) (inn : TrAt fk ta g t H) (h : ArgOk K [ta, g] F H bs vs ds) (hn : 0 < N.length) :
    Rep (Gt K fk ta g F H) F H (L2.start N (.ref ta :: vs)) (entryT N.length bs ds) t := by
  have hl := slotsOf_len h
  have hd : ds.length = vs.length := by rw [h.len.1, h.len.2]
  have noO : ∀ (i : Nat) (d : PyData), (entryT N.length bs ds)[i]? ≠ some (some (.own d)) := fun i d hi => by
    unfold entryT at hi
    cases i with
    | zero => cases hi
    | succ i =>
      rw [List.getElem?_cons_succ] at hi
      by_cases hi2 : i < (slotsOf bs ds).length
      · rw [List.getElem?_append_left hi2] at hi
        exact noOwn i d hi
      · rw [List.getElem?_append_right (by omega), List.getElem?_replicate] at hi
        split at hi <;> cases hi
  refine { ex := sm, inn := inn, sF := fun a ha => ?_, step0 := Same.refl F, step := fun a o _ q1 q2 => ⟨q1, q2⟩, len := ?_, slots := fun i w e => ?_, sep := fun i j a d e _ hi => (noO i d hi).elim }
  · rcases List.mem_cons.mp ha with rfl | ha
    · exact h1
    · cases List.mem_singleton.mp ha
      exact h2
  · unfold entryT L2.start
    rw [List.length_cons, List.length_append, List.length_append, List.length_map, List.length_replicate, List.length_replicate, hl, hd, List.length_cons]
    omega
  · unfold entryT at e
    cases i with
    | zero =>
      cases e
      rfl
    | succ i =>
      rw [List.getElem?_cons_succ] at e
      by_cases hi : i < (slotsOf bs ds).length
      · rw [List.getElem?_append_left hi] at e
        have := entry_slot (Γ := Gt K fk ta g F H) (N := N) rfl rfl rfl rfl (pre := [.ref ta]) (pe := [some (.tray 0)]) rfl h (i + 1) w (by simpa using e)
        rcases this with q | q
        · simp at q
        · have hz : (L2.start N (.ref ta :: vs))[i + 1]? = ((([.ref ta] : List V) ++ vs).map some)[i + 1]? := by
            unfold L2.start
            rw [List.getElem?_append_left (by rw [List.length_map, List.length_cons]; omega), List.singleton_append]
          cases w <;> (unfold SlotOk at q ⊢; rw [hz]; exact q)
      · rw [List.getElem?_append_right (by omega), List.getElem?_replicate] at e
        split at e <;> cases e
/-- the rule: a def with the tray -/
theorem fn_tray {P : Program} {w : World} {K : PySem.W.Frag} {fk : Str} {mg : Str → Option Value} {base : Heap} {k : Nat} {f : Addr} {fd : FuncData} {N ps : List Str} {x qual : Str} {st : Stmt} {bs : List Bool} {body : MS Tr} (F : Fun K x qual st f fd) (S : FnScope N ps (defScope st)) (hn : bs.length + 1 = ps.length) (hN : 0 < N.length)
    (hb : ∀ (ta g : Addr) (cdv : Value) (A : Around) (outer : List PySem.Env) (s : Shared) (H F0 : Hp) (E : XK), A.guards = some [] → Room k (A.deeper (PyProof.Rows.envOfC qual (defScope st) s.heap.objs.size f cdv)) →
      PSs (cxOf CX0 P w K mg base N qual (defScope st) f cdv A outer s H E).nox (defBody st) (denS (Gt K fk ta g F0 H) body)) : FnG P w K mg base CX0 (k + 1) f fd ps (spT K fk bs (mFunT N.length bs body)) := by
  refine Fn.okG F S (fun vs H Q E h => ?_) fun cdv A outer s H vs Q E hg hr h => ?_
  · obtain ⟨ta, g, F0, t, ds, d, t', ws, rfl, _, _, _, _, a, _⟩ := h
    rw [List.length_cons, a.len.1, hn]
  · obtain ⟨ta, g, F0, t, ds, d, t', ws, rfl, sm, f1, f2, inn, a, e, q⟩ := h
    refine ⟨_, (hb ta g cdv A outer s H F0 E hg hr).nox, F0, entryT N.length bs ds, t, ?_⟩
    unfold mFunT at e
    have fin : ∀ {F' H' : Hp} {t2 : Tr}, Fin (Gt K fk ta g F0 H) F' H' t2 → Ext [ta, g] F0 H F' H' := fun {F' H' t2} z => ⟨z.step0, z.ex, fun b o hS hb => ?_, fun b o q1 q2 => ?_⟩
    · split at e
      · rename_i d1 t1 e1
        cases e
        exact ⟨.rt d, t', entryT_rep sm f1 f2 inn a hN, e1, fun v F' H' z k => q v F' H' (fin z) (z.sF ta (by show ta ∈ [ta, g]; simp)) (z.sF g (by show g ∈ [ta, g]; simp)) z.inn k⟩
      · rename_i ρ1 t1 e1
        cases e
        exact ⟨.nx ρ1, t', entryT_rep sm f1 f2 inn a hN, e1, fun σ' F' H' z _ => q _ F' H' (fin z.toFin) (z.sF ta (by show ta ∈ [ta, g]; simp)) (z.sF g (by show g ∈ [ta, g]; simp)) z.inn .non⟩
      · cases e
    · by_cases hz : F0 b = none
      · exact (z.step b o hS hz hb).2
      · cases z2 : F0 b with
        | none => exact absurd z2 hz
        | some u =>
          have e1 := sm b u z2
          rw [hb] at e1
          cases e1
          exact z.ex b o (z.step0 b o z2)
    · by_cases hS : b ∈ [ta, g]
      · exact z.sF b hS
      · exact (z.step b o hS q1 q2).1
section
variable {K : PySem.W.Frag} {fk : Str} {ta g : Addr} {F0 H0 : Hp} {X : Cx} {a : Expr} {es : List Expr} {pos p : Pos} {x : Str} {k : Nat} {f : Addr} {fd : FuncData} {ps : List Str} {bs : List Bool} {m : Tr → List PyData → Option (PyData × Tr)} {ga : Env → Tr → Option (List Rv × Tr)}
theorem w_callT {E : XK} (σ : L2.St) (H : Hp) (Q : VK) : den (Gt K fk ta g F0 H0) (mCallT bs m ga) σ H Q → denA (Gt K fk ta g F0 H0) ga σ H fun vs H1 => spT K fk bs m vs H1 Q E := by
  rintro ⟨F, ρ, t, r, t', R, e, q⟩
  unfold mCallT at e
  split at e
  · rename_i rs t1 e1
    obtain ⟨ds, e2, e⟩ := bind_some e
    obtain ⟨⟨d, t2⟩, e3, e⟩ := bind_some e
    cases e
    refine ⟨F, ρ, t, _, _, R, e1, fun vs F1 H1 R1 x1 k1 => ?_⟩
    cases k1 with
    | @cons v vs _ _ k0 k1 =>
      cases (show v = V.ref ta from k0)
      refine ⟨ta, g, F1, _, ds, d, _, vs, rfl, R1.ex, R1.sF ta (by show ta ∈ [ta, g]; simp), R1.sF g (by show g ∈ [ta, g]; simp), R1.inn, args_ok R1 k1 e2, e3, fun v F2 H2 x2 f1 f2 i2 k2 => ?_⟩
      have R2 : Rep (Gt K fk ta g F0 H0) F2 H2 σ ρ _ := R1.ext x2 i2 fun b hb => by
        rcases List.mem_cons.mp hb with rfl | hb
        · exact f1
        · cases List.mem_singleton.mp hb
          exact f2
      exact q v F2 H2 R2 (x1.then x2 R2) k2
  · cases e
theorem pe_callT (G : FnG X.prog X.w X.K X.mg X.base CX0 k f fd ps (spT K fk bs m)) (hg : X.A.guards = some []) (hr : Room k X.A) (hgl : Gl X x) (hm : X.mg x = some (.ref f)) (hk : PySem.W.keepIn X.K (.ref f) = true) (hb : Binds X.K fd ps [])
    (ha : PA X (a :: es) (denA (Gt K fk ta g F0 H0) ga)) (hdb : (x == ("__debug__" : Str)) = false := by decide) (he : starEach (a :: es) X.env = (false, eval a X.env) :: starEach es X.env := by rfl) (hpl : (backTo pos (starEach es X.env)).any (·.1) = false := by rfl) :
    PE X (.Call (.Name x p) (a :: es) [] pos) (den (Gt K fk ta g F0 H0) (mCallT bs m ga)) := pe_w (pe_callG (E := E0) G hg hr hgl hm hk hb pass0 ha hdb he hpl) w_callT
end
/-- the tray as the def that makes it answers it -/
def trD (fk : Str) (t : Tr) : PyData := .list (.list (t.far.map .int) :: t.es.map fun e => .int e.2)
theorem dqa_es {K : PySem.W.Frag} {F : Hp} : ∀ {es : List (Str × Int)} {vs : List V}, DqA K F vs (es.map fun e => PyData.int e.2) → vs = es.map fun e => V.int e.2
  | [], _, h => by cases h; rfl
  | e :: r, _, h => by
    rw [List.map_cons] at h
    cases h with
    | cons h1 h2 =>
      cases h1
      rw [List.map_cons, dqa_es h2]
theorem trD_at {K : PySem.W.Frag} {F H : Hp} {fk : Str} {t : Tr} {v : V} (h : Dq K F v (trD fk t)) (sm : Same F H) (hk : t.es.map Prod.fst = keys) : ∃ ta g, v = .ref ta ∧ TrAt fk ta g t H := by
  unfold trD at h
  cases h with
  | @lst ta vs _ hF ha =>
    cases ha with
    | cons h1 h2 =>
      cases h1 with
      | @lst g xs _ hg hb =>
        refine ⟨ta, g, rfl, ⟨?_, hk⟩, ?_⟩
        · rw [sm _ _ hF, dqa_es h2]; rfl
        · rw [sm _ _ hg, dqa_int hb]
/-- law(script): tray = make(script), then the rest -/
theorem fn_law {P : Program} {w : World} {K : PySem.W.Frag} {fk : Str} {mg : Str → Option Value} {base : Heap} {k i n : Nat} {f : Addr} {fd : FuncData} {N : List Str} {y x qual : Str} {st s1 : Stmt} {rest : List Stmt} {mt : List Int → Option PyData} {body : MS Tr} (F : Fun K x qual st f fd) (S : FnScope N [y] (defScope st))
    (hst : defBody st = s1 :: rest) (hi : i < N.length) (hn : n ≤ 100)
    (h1 : ∀ (cdv : Value) (A : Around) (outer : List PySem.Env) (s : Shared) (H : Hp) (E : XK), A.guards = some [] → Room k (A.deeper (PyProof.Rows.envOfC qual (defScope st) s.heap.objs.size f cdv)) →
      PS (cxOf CX0 P w K mg base N qual (defScope st) f cdv A outer s H E).nox s1 (tAsg (fun σ H Q => tVar 0 σ H fun v H1 => spS K mt [v] H1 Q E0) (gName i)))
    (hb : ∀ (ta g : Addr) (cdv : Value) (A : Around) (outer : List PySem.Env) (s : Shared) (H H0 F0 : Hp) (E : XK), A.guards = some [] → Room k (A.deeper (PyProof.Rows.envOfC qual (defScope st) s.heap.objs.size f cdv)) →
      PSs (cxOf CX0 P w K mg base N qual (defScope st) f cdv A outer s H E).nox rest (denS (Gt K fk ta g F0 H0) body))
    (hl : ∀ ns : List Int, ns.length ≤ n → (∀ z ∈ ns, Builtin.Int.intBits z ≤ 1048576) → ∃ t0, mt ns = some (trD fk t0) ∧ t0.es.map Prod.fst = keys ∧ ∃ t', body (entryL N.length i) t0 = some (.rt (.bool true), t')) : FnG P w K mg base CX0 (k + 1) f fd [y] (spLaw K n) := by
  refine Fn.okG F S (fun vs H Q E h => ?_) fun cdv A outer s H vs Q E hg hr h => ?_
  · obtain ⟨a, ns, rfl, _⟩ := h
    rfl
  · obtain ⟨a, ns, rfl, hS, hlen, hbits, q⟩ := h
    obtain ⟨t0, e0, hks, t', e1⟩ := hl ns hlen hbits
    rw [hst]
    refine ⟨_, (pss_cons (h1 cdv A outer s H E hg hr) (ps_in fun x : Addr × Addr × Hp × Hp => hb x.1 x.2.1 cdv A outer s H x.2.2.1 x.2.2.2 E hg hr)).nox, ?_⟩
    have h0 : (L2.start N [.ref a])[0]? = some (some (V.ref a)) := rfl
    refine ⟨_, h0, a, ns, _, rfl, hS, by omega, e0, fun v F1 H1 s1 s2 dq => ?_⟩
    obtain ⟨ta, g, rfl, T⟩ := trD_at dq s2 hks
    refine ⟨⟨ta, g, H1, fun _ => none⟩, fun _ => none, entryL N.length i, t0, .rt (.bool true), t', ?_, e1, fun v F' H' z k => ?_⟩
    · have only : ∀ (j : Nat) (w : Val), (entryL N.length i)[j]? = some (some w) → i = j ∧ w = .tray 0 := fun j w e => by
        unfold entryL at e
        rcases get_set e with ⟨rfl, z⟩ | ⟨_, z⟩
        · cases z; exact ⟨rfl, rfl⟩
        · rw [List.getElem?_replicate] at z
          split at z <;> cases z
      refine { ex := fun b u z => (by cases z), inn := T, sF := fun _ _ => rfl, step0 := Same.refl _, step := fun b o _ q1 q2 => ⟨q1, q2⟩, len := ?_, slots := fun j w e => ?_, sep := fun j k b d d' _ hj => ?_ }
      · unfold entryL L2.start
        rw [List.length_set, List.length_set, List.length_append, List.length_replicate, List.length_map, List.length_replicate, List.length_singleton]
        omega
      · obtain ⟨rfl, rfl⟩ := only j w e
        show ((L2.start N [.ref a]).set i _)[i]? = _
        rw [List.getElem?_set_self (by unfold L2.start; rw [List.length_append, List.length_map, List.length_replicate, List.length_singleton]; omega)]
        rfl
      · obtain ⟨_, z⟩ := only j _ hj
        cases z
    · cases (show Dq K F' v (.bool true) from k)
      exact q H'

section
variable {K : PySem.W.Frag} {fk : Str} {ta g : Addr} {F0 H0 : Hp} {X : Cx} {a : Expr} {es : List Expr} {pos p : Pos} {x : Str} {st : Stmt} {k j : Nat} {f : Addr} {fd : FuncData} {ps : List Str} {bs : List Bool} {m : Tr → List PyData → Option (PyData × Tr)} {ga : Env → Tr → Option (List Rv × Tr)}
theorem pe_kT (D : Known X.prog X.w X.K X.mg X.base k x st f fd ps (spT K fk bs m)) (hg : X.A.guards = some []) (hr : Room j X.A) (hgl : Gl X x) (ha : PA X (a :: es) (denA (Gt K fk ta g F0 H0) ga)) (hj : k ≤ j := by decide) (hdb : (x == ("__debug__" : Str)) = false := by decide)
    (he : starEach (a :: es) X.env = (false, eval a X.env) :: starEach es X.env := by rfl) (hpl : (backTo pos (starEach es X.env)).any (·.1) = false := by rfl) : PE X (.Call (.Name x p) (a :: es) [] pos) (den (Gt K fk ta g F0 H0) (mCallT bs m ga)) :=
  pe_callT D.G hg (hr.mono hj) hgl D.m D.F.kp D.b ha hdb he hpl
end
end LT
end Mi
/-! tuple(range(n)). -/
namespace Mi
open PySem PySem.Spec PyProof.Rows L2
section
variable {X : Cx} {Γ : Gm} {a b : Expr} {fa fb : ME Γ.T} {p p2 pos pos2 : Pos}
def mTRg1 {T : Type} (f : ME T) : ME T := fun ρ t => match f ρ t with
  | some (.fro (.int n), t') => if 0 ≤ n ∧ n ≤ 16777216 then some (.fro (.tuple (rgD 0 n)), t') else none
  | _ => none
theorem pe_tRg1D (hc : X.calm = true) (hg : Gl X "tuple") (hm : X.mg "tuple" = none) (hg2 : Gl X "range") (hm2 : X.mg "range" = none) (h : PE X a (den Γ fa)) (hs : starEach [a] X.env = (false, eval a X.env) :: starEach [] X.env := by rfl)
    (hs2 : starEach [.Call (.Name "range" p2) [a] [] pos2] X.env = (false, eval (.Call (.Name "range" p2) [a] [] pos2) X.env) :: starEach [] X.env := by rfl) :
    PE X (.Call (.Name "tuple" p) [.Call (.Name "range" p2) [a] [] pos2] [] pos) (den Γ (mTRg1 fa)) := pe_w (pe_tupRg hc hg hm (prg_1 hg2 hm2 h hs) hs2) fun σ H Q => by
  rintro ⟨F, ρ, t, r, t', R, e, q⟩
  unfold mTRg1 at e
  split at e
  · rename_i n t1 e1
    split at e
    · rename_i hz
      cases e
      refine ⟨F, ρ, t, _, _, R, e1, fun v F1 H1 R1 x1 k1 => ?_⟩
      cases (show Dq Γ.K F1 v (.int n) from k1)
      refine ⟨n, rfl, RgOk.of_le (by decide) hz.2 (by decide) hz.1, fun p hp => ?_⟩
      have x2 : Ext [] F1 H1 (upd F1 p (.tup (rgV 0 n))) (upd H1 p (.tup (rgV 0 n))) := Ext.keep R1.ex hp
      exact q _ _ _ (R1.ext0 x2) (x1.then x2.wide (R1.ext0 x2)) (.tup (.of upd_same) (rg_dq 0 n))
    · cases e
  · cases e
end
theorem rg0_nat (n : Nat) : rgD 0 (n : Int) = natsD (List.range n) := by
  unfold rgD natsD
  rw [show ((n : Int) - 0).toNat = n by omega]
  refine List.map_congr_left fun i _ => ?_
  rw [Int.zero_add]
theorem f_tRg1 {T : Type} {ρ : Env} {t : T} {f : ME T} {Q : PyData → T → Prop} (h : Ef f ρ t fun d t1 => ∃ n : Nat, d = .int (n : Int) ∧ n ≤ 1000000 ∧ Q (.tuple (natsD (List.range n))) t1) : Ef (mTRg1 f) ρ t Q := by
  obtain ⟨d, t1, e, n, rfl, hn, q⟩ := h
  refine ⟨_, t1, ?_, q⟩
  unfold mTRg1
  rw [e]
  dsimp only
  rw [if_pos ⟨by omega, by omega⟩, rg0_nat]
theorem l_rg1 {T : Type} {ρ : Env} {t : T} {f : ME T} {Q : PyData → T → Prop} (h : Ef f ρ t fun d t1 => ∃ n : Nat, d = .int (n : Int) ∧ n ≤ 1000000 ∧ Q (.list (natsD (List.range n))) t1) : Eg (mLRg1 f) ρ t Q := by
  obtain ⟨d, t1, e, n, rfl, hn, q⟩ := h
  refine ⟨_, t1, ?_, q⟩
  unfold mLRg1
  rw [e]
  dsimp only
  rw [if_pos ⟨by omega, by omega⟩, rg0_nat]
end Mi
/-! A tuple many times over. -/
namespace L2
open PySem PySem.Spec PyProof.Rows
def rRepW (K : PySem.W.Frag) : R2 := fun x y H Q => ∃ l k xs, x = .ref l ∧ y = .int k ∧ SqT K H l xs ∧ xs ≠ [] ∧ 2 ≤ k ∧ ((xs.length : Nat) : Int) * k ≤ 1000000 ∧ ∀ p, H p = none → Q (.ref p) (upd H p (.tup (List.replicate k.toNat xs).flatten))
section
variable {X : Cx}
theorem op_repW : OpR X (binaryOp .Mult) (rRepW X.K) := by
  intro pins s σ H x y v u Q I rx ry h
  obtain ⟨l, k, xs, rfl, rfl, hT, hne, h1, hz, q⟩ := h
  cases rx
  obtain ⟨t, rfl⟩ := ry
  obtain ⟨its, r, ⟨⟨cls, dd, data, sl⟩, ho, hc, n, hd⟩, hs⟩ := I.tuple hT
  simp only at hc hd
  subst hc hd
  have hle : its.length = xs.length := r.length.symm
  have hn : its ≠ [] := fun e => hne (by
    rw [e] at hle
    exact List.eq_nil_of_length_eq_zero hle.symm)
  have hi : its.toArray.isEmpty = false := by
    cases its with
    | nil => exact absurd rfl hn
    | cons a b => rfl
  have hsz0 : its.toArray.size = xs.length := by rw [List.size_toArray, hle]
  have hpos : 1 ≤ xs.length := List.length_pos_iff.mpr hne
  have hm : ((its.toArray.size : Nat) : Int) * k ≤ 1000000 := by rw [hsz0]; exact hz
  have hkz : k ≤ 1000000 := by
    have a1 : 1 * k ≤ ((xs.length : Nat) : Int) * k := Int.mul_le_mul_of_nonneg_right (by omega) (by omega)
    omega
  have hkn : k.toNat * xs.length ≤ 1000000 := by
    have a2 : ((k.toNat * xs.length : Nat) : Int) = ((xs.length : Nat) : Int) * k := by
      rw [Int.natCast_mul, Int.toNat_of_nonneg (by omega), Int.mul_comm]
    omega
  have flen : (List.replicate k.toNat its).flatten.length ≤ sizeLine := by
    rw [PyProof.Rows.lm_len_rep_flat, hle, sizeLine_eq]
    omega
  have c0 : (decide (k < -(2 ^ 63)) || decide (k ≥ 2 ^ 63)) = false := by
    rw [decide_eq_false (by omega), decide_eq_false (by omega)] <;> rfl
  have c1 : (its.toArray.isEmpty || k == 1) = false := by
    rw [hi, Bool.false_or]
    exact beq_eq_false_iff_ne.mpr (by omega)
  have c2 : (decide (k ≤ 0) || its.toArray.isEmpty) = false := by
    rw [hi, Bool.or_false]
    exact decide_eq_false (by omega)
  have c4 : Builtin.Tuple.tupleTooMany (((its.toArray.size : Nat) : Int) * k) = false := by
    unfold Builtin.Tuple.tupleTooMany
    rw [sizeLine_eq]
    exact decide_eq_false (by omega)
  refine wpAny_binaryOp_repeat_ref (T := "tuple") (U := "int") (by decide) ⟨_, ho, rfl⟩ (fun s' => typeIs_int s' k t) noFill_tuple_mul F.fills_int_mul F.slot_int_rmul repeat_tuple F.slot_int_index.lookup
    (call_meets F.slot_int_rmul (typeIs_int s k t) F.entry_int_rmul (F.args_int_rmul_2 _ _) (int_rmul_tuple k t l its.toArray n dd sl)
      ⟨ho, rfl, ⟨_, ho, rfl⟩, call_meets F.slot_tuple_mul ⟨_, ho, rfl⟩ F.entry_tuple_mul (F.args_tuple_mul_2 _ _) (tuple_mulW l its.toArray n dd sl k t c0 c1 c2 (by omega) c4 (by rw [size_rep, List.size_toArray]; exact flen)) ⟨ho, ?_⟩⟩)
  rw [size_rep]
  refine ⟨.ref s.heap.objs.size, _, I.laid (t' := s.toks) (o := .tup (List.replicate k.toNat xs).flatten) (fun b ob q => Heap.get?_push_of_some _ q) (Nat.le_refl _) ?_, rfl, q _ (I.hok.fresh (Nat.le_refl _))⟩
  exact ⟨by rw [PyProof.Rows.lm_len_rep_flat, sizeLine_eq]; omega, _, r.rep k.toNat, IsTup.new _ _⟩
end
end L2
namespace Mi
open PySem PySem.Spec PyProof.Rows L2
def mulTW (x y : PyData) : Option PyData := match x, y with
  | .tuple xs, .int k => if xs ≠ [] ∧ 2 ≤ k ∧ ((xs.length : Nat) : Int) * k ≤ 1000000 then some (.tuple (List.replicate k.toNat xs).flatten) else none
  | _, _ => none
theorem op_mulTW {X : Cx} : OpR X (binaryOp .Mult) (rD X.K mulTW) := by
  rintro pins s σ H v w a b Q I ra rb ⟨F, x, y, z, sm, dx, dy, e, q⟩
  unfold mulTW at e
  split at e
  · rename_i xs k
    split at e
    · rename_i hz
      cases e
      obtain ⟨l, vs, rfl, h1, k1⟩ := dx
      refine op_repW pins s σ H _ _ a b Q I ra rb ⟨l, _, vs, rfl, dy, same_t sm h1, fun n => ?_, hz.2.1, by rw [k1.length]; exact hz.2.2, fun p hp => ?_⟩
      · subst n
        cases k1
        exact hz.1 rfl
      · have x2 : Ext [] F H (upd F p (.tup (List.replicate k.toNat vs).flatten)) (upd H p (.tup (List.replicate k.toNat vs).flatten)) := Ext.keep sm hp
        exact q _ _ _ x2 (.tup (.of upd_same) ((k1.rep _).mono x2.f))
    · cases e
  · cases e
theorem mulTW_ok {xs : List PyData} {k : Nat} (h0 : xs ≠ []) (h1 : 2 ≤ k) (h : xs.length * k ≤ 1000000) : mulTW (.tuple xs) (.int (k : Int)) = some (.tuple (List.replicate k xs).flatten) := by
  refine (if_pos ⟨h0, by omega, by rw [← Int.natCast_mul]; omega⟩).trans ?_
  rw [Int.toNat_natCast]
end Mi
/-! xs.index(d), xs.count(d) of lists, items of any kind. -/
namespace L2
open PySem PySem.Spec PyProof.Rows
section
variable {X : Cx}
def rCountD (K : PySem.W.Frag) : V → List V → Hp → VK → Prop := fun x xs H Q => ∃ (a : Addr) (y : V) (d : PyData) (ds : List PyData), x = V.ref a ∧ xs = [y] ∧ Dp K H (V.ref a) (.list ds) ∧ Dp K H y d ∧
  SeqAt.shaped (.list ds) = true ∧ SeqAt.shaped d = true ∧ Q (.int ((ds.countP fun z => PyData.eqv z d : Nat) : Int)) H
theorem mt_countD (hu : X.A.units + 65 < cLine) : MtR X "list.count" (rCountD X.K) := by
  intro pins s σ H x xs v us Q I rx rxs h
  obtain ⟨a, y, d, ds, rfl, rfl, hl, hy, sl, sd, q⟩ := h
  cases rx
  cases rxs with
  | cons ry rt =>
    rename_i uy ut
    cases rt
    obtain ⟨bs, r1⟩ := Dp.reads I d y uy hy ry
    have hxs : PyData.canLayAll0 ds = true := SeqAt.canLay_of_shaped sl
    have hroom : X.A.units + 1 + min (PyData.depthAll ds) d.depth < cLine := room_in_shaped sd hu
    cases hl with
    | lst hs ha =>
      obtain ⟨its, rv, ⟨⟨cls, dd, data, sls⟩, n, ho, hc, hdn, hdt⟩, hlen⟩ := I.list hs
      simp only at hc hdt
      subst hc hdt
      obtain ⟨as, h4⟩ := Dp.readsAll I ds _ its ha rv
      have hmap : its.map (SeqAt.readOf s.heap) = ds := SeqAt.readsAll_map ds its as hxs h4
      refine call_meets PySem.F.slot_list_count ⟨_, ho, rfl⟩ PySem.F.entry_list_count (PySem.F.args_list_count_2 _ _)
        (SeqAt.list_countAt a its.toArray n dd sls uy (fun u => PyData.eqv (SeqAt.readOf s.heap u) d)) ⟨ho, SeqAt.items_eqAt (vs := its.toArray) (show ReadsAll s.heap its.toArray.toList ds as from h4) r1 hxs (SeqAt.canLay_of_shaped sd) hroom, ?_⟩
      have hc : its.toArray.toList.countP (fun u => PyData.eqv (SeqAt.readOf s.heap u) d) = ds.countP fun z => PyData.eqv z d := by
        rw [← hmap, List.countP_map]
        rfl
      rw [hc]
      exact ⟨.int _, H, I.tok _, ⟨_, rfl⟩, q⟩
end
end L2
namespace Mi
open PySem PySem.Spec PyProof.Rows L2
theorem hu65 {k : Nat} {A : Around} (hr : Room k A) : A.units + 65 < cLine := by have := hr.un; omega
section
variable {X : Cx} {Γ : Gm} {o a : Expr} {fo fa : ME Γ.T} {apos cpos : Pos}
def idxM (x y : PyData) : Option PyData := match x with
  | .list ds => if SeqAt.shaped (.list ds) = true ∧ SeqAt.shaped y = true then (ds.findIdx? fun z => PyData.eqv z y).map fun j => .int ((j : Nat) : Int) else none
  | _ => none
def cntM (x y : PyData) : Option PyData := match x with
  | .list ds => if SeqAt.shaped (.list ds) = true ∧ SeqAt.shaped y = true then some (.int ((ds.countP fun z => PyData.eqv z y : Nat) : Int)) else none
  | _ => none
theorem idxM_some {x y z : PyData} (h : idxM x y = some z) : ∃ ds j, x = .list ds ∧ z = .int ((j : Nat) : Int) ∧ SeqAt.shaped (.list ds) = true ∧ SeqAt.shaped y = true ∧ ds.findIdx? (fun z => PyData.eqv z y) = some j := by
  unfold idxM at h
  split at h
  · split at h
    · rename_i hsh
      obtain ⟨j, hj, rfl⟩ := Option.map_eq_some_iff.mp h
      exact ⟨_, j, rfl, rfl, hsh.1, hsh.2, hj⟩
    · cases h
  · cases h
theorem cntM_some {x y z : PyData} (h : cntM x y = some z) : ∃ ds, x = .list ds ∧ z = .int ((ds.countP (fun z => PyData.eqv z y) : Nat) : Int) ∧ SeqAt.shaped (.list ds) = true ∧ SeqAt.shaped y = true := by
  unfold cntM at h
  split at h
  · split at h
    · rename_i hsh
      cases h
      exact ⟨_, rfl, rfl, hsh.1, hsh.2⟩
    · cases h
  · cases h
/-- a method of a list with one argument -/
def mMth {T : Type} (g : PyData → PyData → Option PyData) (fo fa : ME T) : ME T := fun ρ t => do
  let (r1, t1) ← fo ρ t
  let (r2, t2) ← fa ρ t1
  let x ← rd ρ r1
  let y ← rd ρ r2
  let z ← g x y
  pure (.fro z, t2)
theorem pe_idxM (hu : X.A.units + 65 < cLine) (hK : X.K = Γ.K) (ho : PE X o (den Γ fo)) (ha : PE X a (den Γ fa)) (hs1 : starEach [a] X.env = (false, eval a X.env) :: starEach [] X.env := by rfl) (hbase : attributeBase o "index" X.env (eval o X.env) = eval o X.env := by rfl)
    (hfew : ((backTo cpos (starEach [a] X.env)).all (fun x => !x.1) && (backToKw cpos (keywordEach [] X.env)).all (fun x => x.1.isSome) && decide ([a].length + ([] : List Keyword).length + (if ([] : List Keyword).isEmpty then 0 else 1) < 30)) = true := by rfl)
    (hline : (apos.endLine == cpos.line) = true := by rfl) (hplain : (backTo cpos (starEach [] X.env)).any (·.1) = false := by rfl) : PE X (.Call (.Attribute o "index" apos) [a] [] cpos) (den Γ (mMth idxM fo fa)) := by
  refine pe_w (pe_bm PySem.F.plainAttrs_list PySem.F.slot_list_index PySem.F.type_list_index (mt_indexD hu) ho (pa_cons ha pa_nil hs1) hbase hfew hline hs1 hplain) fun σ H Q => ?_
  rintro ⟨F, ρ, t, r, t', R, e, q⟩
  obtain ⟨⟨r1, t1⟩, e1, e⟩ := bind_some e
  obtain ⟨⟨r2, t2⟩, e2, e⟩ := bind_some e
  obtain ⟨x, ex, e⟩ := bind_some e
  obtain ⟨y, ey, e⟩ := bind_some e
  obtain ⟨z, ez, e⟩ := bind_some e
  cases e
  obtain ⟨ds, j, rfl, rfl, sh1, sh2, hj⟩ := idxM_some ez
  refine ⟨F, ρ, t, _, _, R, e1, fun v F1 H1 R1 x1 k1 => ⟨?_, F1, ρ, _, _, _, R1, e2, fun w F2 H2 R2 x2 k2 => ?_⟩⟩
  · obtain ⟨p, vs, rfl, h1, _⟩ := R1.read k1 ex
    exact .inl ⟨rfl, _, .of h1⟩
  · have dv := R2.read (k1.mono x2.f) ex
    have dw := R2.read k2 ey
    obtain ⟨p, vs, rfl, h1, k⟩ := id dv
    obtain ⟨hlt, h3, h4⟩ := List.findIdx?_eq_some_iff_getElem.mp hj
    rw [hK]
    refine ⟨p, w, y, ds, j, ds[j], rfl, rfl, Dv.dp R2.ex dv (SeqAt.canLay_of_shaped sh1), Dv.dp R2.ex dw (SeqAt.canLay_of_shaped sh2), sh1, sh2, List.getElem?_eq_getElem hlt, h3, fun m z' hm hz' => ?_, q _ F2 H2 R2 (x1.then x2 R2) (.int _)⟩
    obtain ⟨hml, rfl⟩ := List.getElem?_eq_some_iff.mp hz'
    exact eq_false_of_ne_true (h4 m hm)
theorem pe_cntM (hu : X.A.units + 65 < cLine) (hK : X.K = Γ.K) (ho : PE X o (den Γ fo)) (ha : PE X a (den Γ fa)) (hs1 : starEach [a] X.env = (false, eval a X.env) :: starEach [] X.env := by rfl) (hbase : attributeBase o "count" X.env (eval o X.env) = eval o X.env := by rfl)
    (hfew : ((backTo cpos (starEach [a] X.env)).all (fun x => !x.1) && (backToKw cpos (keywordEach [] X.env)).all (fun x => x.1.isSome) && decide ([a].length + ([] : List Keyword).length + (if ([] : List Keyword).isEmpty then 0 else 1) < 30)) = true := by rfl)
    (hline : (apos.endLine == cpos.line) = true := by rfl) (hplain : (backTo cpos (starEach [] X.env)).any (·.1) = false := by rfl) : PE X (.Call (.Attribute o "count" apos) [a] [] cpos) (den Γ (mMth cntM fo fa)) := by
  refine pe_w (pe_bm PySem.F.plainAttrs_list PySem.F.slot_list_count PySem.F.type_list_count (mt_countD hu) ho (pa_cons ha pa_nil hs1) hbase hfew hline hs1 hplain) fun σ H Q => ?_
  rintro ⟨F, ρ, t, r, t', R, e, q⟩
  obtain ⟨⟨r1, t1⟩, e1, e⟩ := bind_some e
  obtain ⟨⟨r2, t2⟩, e2, e⟩ := bind_some e
  obtain ⟨x, ex, e⟩ := bind_some e
  obtain ⟨y, ey, e⟩ := bind_some e
  obtain ⟨z, ez, e⟩ := bind_some e
  cases e
  obtain ⟨ds, rfl, rfl, sh1, sh2⟩ := cntM_some ez
  refine ⟨F, ρ, t, _, _, R, e1, fun v F1 H1 R1 x1 k1 => ⟨?_, F1, ρ, _, _, _, R1, e2, fun w F2 H2 R2 x2 k2 => ?_⟩⟩
  · obtain ⟨p, vs, rfl, h1, _⟩ := R1.read k1 ex
    exact .inl ⟨rfl, _, .of h1⟩
  · have dv := R2.read (k1.mono x2.f) ex
    have dw := R2.read k2 ey
    obtain ⟨p, vs, rfl, h1, k⟩ := id dv
    rw [hK]
    exact ⟨p, w, y, ds, rfl, rfl, Dv.dp R2.ex dv (SeqAt.canLay_of_shaped sh1), Dv.dp R2.ex dw (SeqAt.canLay_of_shaped sh2), sh1, sh2, q _ F2 H2 R2 (x1.then x2 R2) (.int _)⟩
end
section
variable {T : Type} {ρ : Env} {t : T} {fo fa : ME T} {Q : PyData → T → Prop} {g : PyData → PyData → Option PyData}
theorem f_mth (h : Ed fo ρ t fun x t1 => Ed fa ρ t1 fun y t2 => ∃ z, g x y = some z ∧ Q z t2) : Ef (mMth g fo fa) ρ t Q := by
  obtain ⟨r1, t1, x, e1, ex, r2, t2, y, e2, ey, z, ez, q⟩ := h
  refine ⟨_, t2, ?_, q⟩
  unfold mMth
  rw [e1]
  show (fa ρ t1 >>= _) = _
  rw [e2]
  show (rd ρ r1 >>= _) = _
  rw [ex]
  show (rd ρ r2 >>= _) = _
  rw [ey]
  show (g x y >>= _) = _
  rw [ez]
  rfl
end
end Mi
/-! dict([(k, v), ..]), ints all. -/
namespace Mi
open PySem PySem.Spec PyProof.Rows L2
def pairD' (p : Int × Int) : PyData := .tuple [.int p.1, .int p.2]
def entV (p : Int × Int) : Key × V := (.inl p.1, .int p.2)
def entP (p : Int × Int) : PyData × PyData := (.int p.1, .int p.2)
theorem pr_dq {K : PySem.W.Frag} {F : Hp} : ∀ ps : List (Int × Int), DqK K F (ps.map entV) (ps.map entP)
  | [] => .nil
  | p :: r => .cons (k := .inl p.1) (.int p.2) (pr_dq r)
theorem merge_pr : ∀ (ps : List (Int × Int)) (acc : List (Key × V)), (∀ kv ∈ acc, ∀ p ∈ ps, kv.1 ≠ .inl p.1) → (ps.map (·.1)).Nodup → mergeK acc (ps.map entV) = acc ++ ps.map entV
  | [], acc, _, _ => (List.append_nil _).symm
  | p :: r, acc, h, hn => by
    rw [List.map_cons, List.nodup_cons] at hn
    have hv : valV acc (.inl p.1) = none := by
      unfold valV
      rw [Option.map_eq_none_iff, List.find?_eq_none]
      intro kv m
      simp only [decide_eq_true_eq]
      exact h kv m p List.mem_cons_self
    show mergeK (putK acc (.inl p.1) (.int p.2)) (r.map entV) = _
    rw [putK_new _ hv, merge_pr r _ ?_ hn.2, List.append_assoc]
    · rfl
    · intro kv m q mq
      rcases List.mem_append.mp m with m | m
      · exact h kv m q (List.mem_cons_of_mem _ mq)
      · rw [List.mem_singleton.mp m]
        intro z
        injection z with z
        exact hn.1 (List.mem_map.mpr ⟨q, mq, z.symm⟩)
/-- what the pairs of a kept list are -/
theorem prs_at {X : Cx} {pins : List (Addr × Obj)} {σ : L2.St} {H F : Hp} {s : Shared} (I : L2.Inv X pins σ H s) (sm : Same F H) : ∀ (ps : List (Int × Int)) (vs : List V) (us : List Value), DqA X.K F vs (ps.map pairD') → Vals vs us →
    ∃ (Ts : List Addr) (qs : List (Value × Value)), Ts.length = ps.length ∧ qs.length = ps.length ∧ us = Ts.map Value.ref ∧ (∀ (j : Nat) (t : Addr) (k v : Value), Ts[j]? = some t → qs[j]? = some (k, v) → PairAt s.heap t k v) ∧
      (∀ (j : Nat) (p : Int × Int) (k v : Value), ps[j]? = some p → qs[j]? = some (k, v) → (∃ t, k = .int p.1 t) ∧ ∃ t, v = .int p.2 t)
  | [], _, _, .nil, .nil => ⟨[], [], rfl, rfl, rfl, by simp, by simp⟩
  | p :: r, _, _, .cons g gs, .cons hr hs => by
    obtain ⟨Ts, qs, l1, l2, rfl, h1, h2⟩ := prs_at I sm r _ _ gs hs
    cases g with
    | @tup t xs _ ht ha =>
      cases ha with
      | cons a1 ha =>
        cases ha with
        | cons a2 ha =>
          cases ha
          cases a1
          cases a2
          cases hr
          obtain ⟨its, rv, pt, hz⟩ := I.tuple (same_t sm ht)
          cases rv with
          | cons r1 rv =>
            cases rv with
            | cons r2 rv =>
              cases rv
              obtain ⟨t1, rfl⟩ := r1
              obtain ⟨t2, rfl⟩ := r2
              refine ⟨t :: Ts, (.int p.1 t1, .int p.2 t2) :: qs, by rw [List.length_cons, List.length_cons, l1], by rw [List.length_cons, List.length_cons, l2], rfl, ?_, ?_⟩
              · intro j u k v hj hq
                cases j with
                | zero =>
                  cases hj
                  cases hq
                  exact .inl pt
                | succ j => exact h1 j u k v hj hq
              · intro j q k v hj hq
                cases j with
                | zero =>
                  cases hj
                  cases hq
                  exact ⟨⟨_, rfl⟩, _, rfl⟩
                | succ j => exact h2 j q k v hj hq
def kvsU (ps : List (Int × Int)) (qs : List (Value × Value)) : List (Key × Value) := List.zipWith (fun p q => ((.inl p.1 : Key), q.2)) ps qs
theorem kv_of : ∀ (ps : List (Int × Int)) (qs : List (Value × Value)), qs.length = ps.length → (∀ (j : Nat) (p : Int × Int) (k v : Value), ps[j]? = some p → qs[j]? = some (k, v) → (∃ t, k = .int p.1 t) ∧ ∃ t, v = .int p.2 t) → KV (ps.map entV) (kvsU ps qs)
  | [], [], _, _ => .nil
  | p :: r, (k, v) :: qs, hl, h => by
    obtain ⟨_, t, rfl⟩ := h 0 p k v rfl rfl
    exact .cons ⟨rfl, t, rfl⟩ (kv_of r qs (by simpa using hl) fun j p' k' v' h1 h2 => h (j + 1) p' k' v' h1 h2)
  | [], _ :: _, hl, _ => by cases hl
  | _ :: _, [], hl, _ => by cases hl
def prsOf : List PyData → Option (List (Int × Int))
  | [] => some []
  | .tuple [.int k, .int v] :: r => (prsOf r).map ((k, v) :: ·)
  | _ :: _ => none
theorem prsOf_some : ∀ {ds : List PyData} {ps : List (Int × Int)}, prsOf ds = some ps → ds = ps.map pairD'
  | [], ps, h => by cases h; rfl
  | d :: r, ps, h => by
    unfold prsOf at h
    split at h
    · rename_i e
      cases e
    · rename_i k v r' e
      cases e
      obtain ⟨l, hl, rfl⟩ := Option.map_eq_some_iff.mp h
      rw [prsOf_some hl]
      rfl
    · cases h
def dictPr : List PyData → Option PyData
  | [.list ds] => match prsOf ds with
    | some ps => if (ps.map (·.1)).Nodup then some (.dict (ps.map entP)) else none
    | none => none
  | _ => none
theorem dictPr_some {xs : List PyData} {z : PyData} (h : dictPr xs = some z) : ∃ ps : List (Int × Int), xs = [.list (ps.map pairD')] ∧ (ps.map (·.1)).Nodup ∧ z = .dict (ps.map entP) := by
  unfold dictPr at h
  split at h
  · split at h
    · rename_i ps e
      split at h
      · rename_i hn
        cases h
        rw [prsOf_some e]
        exact ⟨ps, rfl, hn, rfl⟩
      · cases h
    · cases h
  · cases h
theorem call_dictPr {X : Cx} (hc : X.calm = true) : CallR X (.type "dict") (rC X.K dictPr) := by
  rintro pins s σ H vs us Q I r ⟨F, xs, z, sm, dx, e, q⟩
  obtain ⟨ps, rfl, hn, rfl⟩ := dictPr_some e
  obtain ⟨v, rfl, l, ws, rfl, h1, k1⟩ := f1 dx
  cases r with
  | cons r0 rt =>
    cases rt
    cases r0
    obtain ⟨its, rv, pl, hz⟩ := I.list (.of h1)
    obtain ⟨Ts, qs, l1, l2, rfl, p1, p2⟩ := prs_at I sm ps ws its k1 rv
    have hwl : ws.length = ps.length := by rw [k1.length, List.length_map]
    have items : PairItems s.heap (Ts.map Value.ref).toArray (fun j => Ts.getD j 0) qs := by
      refine ⟨by rw [List.size_toArray, List.length_map, l1, l2], fun j k v hj => ?_⟩
      have hjl : j < Ts.length := by
        have := (List.getElem?_eq_some_iff.mp hj).1
        omega
      have ht : Ts[j]? = some (Ts.getD j 0) := by rw [List.getD_eq_getElem?_getD, List.getElem?_eq_getElem hjl]; rfl
      refine ⟨?_, p1 j _ k v ht hj⟩
      rw [List.getElem?_toArray, List.getElem?_map, ht]
      rfl
    refine PySem.call_dict_pairs (s := s) (knd := mixKind X.prog X.w) (kvs := kvsU ps qs) (PairArg.list l (Ts.map Value.ref).toArray (fun j => Ts.getD j 0) qs) (I.ok.hd hc) ⟨pl, items⟩ ⟨?_, ?_⟩ (by rw [l2, ← hwl]; exact hz) fun h'' tk hd k => ?_
    · unfold kvsU
      rw [List.length_zipWith, l2, Nat.min_self]
    · rintro i key v hv
      have hv : qs[i]? = some (key, v) := hv
      have hil := (List.getElem?_eq_some_iff.mp hv).1
      have hp : ps[i]? = some (ps[i]'(by omega)) := List.getElem?_eq_getElem (by omega)
      obtain ⟨⟨t, rfl⟩, _⟩ := p2 i _ key v hp hv
      refine ⟨.inl (ps[i]'(by omega)).1, ?_, mixKind_int X.prog X.w _ t⟩
      unfold kvsU
      rw [List.getElem?_zipWith, hp, hv]
    have keep : ∀ b u, s.heap.get? b = some u → h''.get? b = some u := fun b u z => k b u (by simp) z
    have em := merge_pr ps [] (by simp) hn
    rw [List.nil_append] at em
    have rel : KV (ps.map entV) (merged [] (kvsU ps qs)) := by
      have := KV.merge (kv_of ps qs l2 p2) (.nil : KV [] [])
      rw [em] at this
      exact this
    have big : (s.heap.objs.size == sysModules) = false := beq_eq_false_iff_ne.mpr (Nat.ne_of_gt I.big)
    have hp := I.hok.fresh (Nat.le_refl s.heap.objs.size)
    have x2 : Ext [] F H (upd F s.heap.objs.size (.dK (ps.map entV))) (upd H s.heap.objs.size (.dK (ps.map entV))) := Ext.keep sm hp
    exact ⟨.ref s.heap.objs.size, _, I.laid (t' := tk) keep (Nat.le_refl _) (show ObjOk X.prog X.w _ _ _ (.dK (ps.map entV)) from ⟨by rw [List.length_map, ← hwl]; exact hz, big, _, rel, hd⟩), rfl, q _ _ _ x2 (.dct upd_same (pr_dq ps))⟩
end Mi
/-! range(i, j, -1). -/
namespace Mi
open PySem PySem.Spec PyProof.Rows L2
section
variable {Γ : Gm} {X : Cx} {tg a b c : Expr} {p pos : Pos} {ga : Env → Γ.T → Option (List Rv × Γ.T)}
def downL (i : Int) (n : Nat) : List PyData := (List.range n).map fun (k : Nat) => PyData.int (i + (k : Int) * (-1))
def mRange3 {T : Type} (g : Env → T → Option (List Rv × T)) : Env → T → Option (List PyData × T) := fun ρ t => match g ρ t with
  | some ([.fro (.int i), .fro (.int j), .fro (.int c)], t') => if c = -1 ∧ -(2 ^ 62) ≤ i ∧ i < 2 ^ 62 ∧ -(2 ^ 62) ≤ j ∧ j < 2 ^ 62 then some (downL i (i - j).toNat, t') else none
  | _ => none
theorem walk_down {F : Hp} {lo : Int} {n : Nat} : Walks Γ F (Itc lo (-1) n) (downL lo n) := fun i F' H' t s R => by
  unfold downL
  refine ⟨fun d hd => ?_, fun hi => (show n ≤ i by rw [List.length_map, List.length_range] at hi; exact Nat.le_of_eq hi)⟩
  rw [List.getElem?_map] at hd
  cases e : (List.range n)[i]? with
  | none => rw [e] at hd; cases hd
  | some k =>
    rw [e] at hd
    cases hd
    obtain ⟨h1, h2⟩ := List.getElem?_eq_some_iff.mp e
    have hk : k = i := by rw [← h2]; simp
    subst hk
    refine ⟨(show k < n by simpa using h1), fun x H'' y => ?_⟩
    obtain ⟨rfl, rfl⟩ := y
    exact ⟨F', Ext.refl R.ex, .int _⟩
theorem pi_range3D (hg : Gl X "range") (hm : X.mg "range" = none) (ha : PA X [a, b, c] (denA Γ ga)) (hs : starEach [a, b, c] X.env = (false, eval a X.env) :: starEach [b, c] X.env := by rfl) (hpl : (backTo pos (starEach [b, c] X.env)).any (·.1) = false := by rfl) :
    PI X tg (.Call (.Name "range" p) [a, b, c] [] pos) (denI Γ (mRange3 ga)) := pi_w (pi_range3 hg hm ha hs hpl) fun σ H Rr => by
  rintro ⟨F, ρ, t, items, t', R, e, q⟩
  unfold mRange3 at e
  split at e
  · rename_i i j c t1 e1
    split at e
    · rename_i hz
      cases e
      refine ⟨F, ρ, t, _, _, R, e1, fun vs F1 H1 R1 x1 k1 => ?_⟩
      cases k1 with
      | cons k1 kn =>
        cases kn with
        | cons k2 kn =>
          cases kn with
          | cons k3 kn =>
            cases kn
            cases (show Dq Γ.K F1 _ (.int i) from k1)
            cases (show Dq Γ.K F1 _ (.int j) from k2)
            cases (show Dq Γ.K F1 _ (.int c) from k3)
            obtain ⟨rfl, z1, z2, z3, z4⟩ := hz
            exact ⟨i, j, -1, (i - j).toNat, rfl, RgC.neg z1 z2 z3 z4, q F1 H1 _ R1 x1 walk_down⟩
    · cases e
  · cases e
end
theorem keptR_cons {r : Rv} {rs : List Rv} {ds : List PyData} (h : kept (r :: rs) = some ds) : ∃ d ds', r = .fro d ∧ kept rs = some ds' ∧ ds = d :: ds' := by
  cases r with
  | fro d =>
    unfold kept at h
    cases z : kept rs with
    | none => rw [z] at h; cases h
    | some l => rw [z] at h; cases h; exact ⟨d, l, rfl, rfl, rfl⟩
  | loan i => cases h
  | tray k => cases h
theorem keptR_nil {rs : List Rv} (h : kept rs = some []) : rs = [] := by
  cases rs with
  | nil => rfl
  | cons r rs => obtain ⟨_, _, _, _, e⟩ := keptR_cons h; cases e
section
variable {T : Type} {ρ : Env} {t : T} {fs : Env → T → Option (List Rv × T)} {QL : List PyData → T → Prop}
theorem i_range3 (h : Ek fs ρ t fun ds t1 => ∃ i j : Int, ds = [.int i, .int j, .int (-1)] ∧ (-1000000000 ≤ i ∧ i < 1000000000 ∧ -1000000000 ≤ j ∧ j < 1000000000) ∧ QL (downL i (i - j).toNat) t1) : Eg (mRange3 fs) ρ t QL := by
  obtain ⟨rs, t1, _, e, ek, i, j, rfl, hj, q⟩ := h
  have : rs = [.fro (.int i), .fro (.int j), .fro (.int (-1))] := by
    cases rs with
    | nil => cases ek
    | cons r rs =>
      obtain ⟨d, ds, rfl, h2, e1⟩ := keptR_cons ek
      cases e1
      cases rs with
      | nil => cases h2
      | cons r rs =>
        obtain ⟨d, ds, rfl, h3, e1⟩ := keptR_cons h2
        cases e1
        cases rs with
        | nil => cases h3
        | cons r rs =>
          obtain ⟨d, ds, rfl, h4, e1⟩ := keptR_cons h3
          cases e1
          rw [keptR_nil h4]
  subst this
  refine ⟨_, t1, ?_, q⟩
  unfold mRange3
  rw [e]
  have hc : ∀ i j : Int, (-1000000000 ≤ i ∧ i < 1000000000 ∧ -1000000000 ≤ j ∧ j < 1000000000) → (-1 : Int) = -1 ∧ -(2 ^ 62) ≤ i ∧ i < 2 ^ 62 ∧ -(2 ^ 62) ≤ j ∧ j < 2 ^ 62 := fun i j h => ⟨rfl, by omega, by omega, by omega, by omega⟩
  exact if_pos (hc i j hj)
end
end Mi
namespace Mi.K18
open PySem L2

def top (i : Nat) : Stmt := PySem.Challenge.pw_carryladder_k18_whole_neat_programs.main.body.getD i (.Pass ⟨0, 0, 0, 0⟩)
/-- names of built-in things that the text leaves alone, constants -/
structure Blt (mg : Str → Option Value) : Prop where
  b_tuple : mg "tuple" = none
  b_len : mg "len" = none
  b_reversed : mg "reversed" = none
  b_range : mg "range" = none
  b_list : mg "list" = none
  b_sum : mg "sum" = none
  b_abs : mg "abs" = none
  b_int : mg "int" = none
  b_isinstance : mg "isinstance" = none
  b_str : mg "str" = none
  b_min : mg "min" = none
  b_sorted : mg "sorted" = none
  b_enumerate : mg "enumerate" = none
  b_dict : mg "dict" = none
  b_max : mg "max" = none
  b_repr : mg "repr" = none

/-! ### operands_of -/
abbrev s_operands_of : Stmt := top 1
def N_operands_of : List Str := ["row"]
theorem sc_operands_of : FnScope N_operands_of ["row"] (defScope s_operands_of) := ⟨rfl, rfl, rfl, by decide +kernel, rfl, by decide +kernel, by decide +kernel⟩
def m_operands_of : MS Unit :=
  (mSeq (mIfS (mTest (mBin eqD (mBin ixD (mV 0) (mC (.int 0))) (mC (.str "mask")))) (mRet (mTup mNil)) mSkip)
  (mRet (mSl (mV 0) (mPart (mC (.int 1))) mNoP)))
def f_operands_of : List PyData → Option PyData := mFun 1 [true] m_operands_of
theorem k_operands_of {P : Program} {w : World} {K : PySem.W.Frag} {mg : Str → Option Value} {base : Heap} {f : Addr} {fd : FuncData} (B : Blt mg) (F : Fun K "operands_of" "operands_of" s_operands_of f fd) (m : mg "operands_of" = some (.ref f)) :
    Known P w K mg base 1 "operands_of" s_operands_of f fd ["row"] (spP K [true] f_operands_of) :=
  ⟨m, F, F.binds (ps := ["row"]) fun _ _ _ _ _ _ us hl => match us, hl with | [_], _ => rfl,
    fn_pure F sc_operands_of rfl fun cdv A outer s H F0 E hg hr => (pss_consD (ps_ifD (pt_cmpD (op_eqDD (hu64 hr)) (pe_ixD (ix_D (hu_of hr)) (pe_v (pv 0)) pe_cI (by intro _ _; rfl)) pe_cS (nomark _)) (pss_oneD (ps_retD (pe_tupD pa_nilD))) pss_nilD)
  (pss_oneD (ps_retD (pe_slD sl_D (pe_v (pv 0)) (po_someD pe_cI) po_noneD))))⟩

/-! ### renumbered -/
abbrev s_renumbered : Stmt := top 2
def N_renumbered : List Str := ["row", "numbers", "operand"]
theorem sc_renumbered : FnScope N_renumbered ["row", "numbers"] (defScope s_renumbered) := ⟨rfl, rfl, rfl, by decide +kernel, rfl, by decide +kernel, by decide +kernel⟩
def m_renumbered : MS Unit :=
  (mSeq (mIfS (mTest (mBin eqD (mBin ixD (mV 0) (mC (.int 0))) (mC (.str "mask")))) (mRet (mV 0)) mSkip)
  (mRet (mBin addD (mTup (mCons (mBin ixD (mV 0) (mC (.int 0))) mNil)) (mCall tupleD (mCons (mKeep (mLc (mItems (mSl (mV 0) (mPart (mC (.int 1))) mNoP)) (gN 2) mYes (mBin ixD (mV 1) (mV 2)) [2])) mNil)))))
def f_renumbered : List PyData → Option PyData := mFun 3 [true, true] m_renumbered
theorem k_renumbered {P : Program} {w : World} {K : PySem.W.Frag} {mg : Str → Option Value} {base : Heap} {f : Addr} {fd : FuncData} (B : Blt mg) (F : Fun K "renumbered" "renumbered" s_renumbered f fd) (m : mg "renumbered" = some (.ref f)) :
    Known P w K mg base 1 "renumbered" s_renumbered f fd ["row", "numbers"] (spP K [true, true] f_renumbered) :=
  ⟨m, F, F.binds (ps := ["row", "numbers"]) fun _ _ _ _ _ _ us hl => match us, hl with | [_, _], _ => rfl,
    fn_pure F sc_renumbered rfl fun cdv A outer s H F0 E hg hr => (pss_consD (ps_ifD (pt_cmpD (op_eqDD (hu64 hr)) (pe_ixD (ix_D (hu_of hr)) (pe_v (pv 0)) pe_cI (by intro _ _; rfl)) pe_cS (nomark _)) (pss_oneD (ps_retD (pe_v (pv 0)))) pss_nilD)
  (pss_oneD (ps_retD (pe_bin op_addD (pe_tupD (pa_consD (pe_ixD (ix_D (hu_of hr)) (pe_v (pv 0)) pe_cI (by intro _ _; rfl)) pa_nilD)) (pe_tyD call_tupleDD (by rfl) B.b_tuple bt_tuple (pa_consD (pe_keep (pe_lcD (own := [("operand", 2)]) rfl sc_renumbered.nd (pi_seqD rfl (pe_slD sl_D (pe_v (pv 0)) (po_someD pe_cI) po_noneD)) (blkOk_by (own := [("operand", 2)]) (N := N_renumbered) (sc := defScope s_renumbered) (by decide +kernel)) (fun _ _ _ _ _ => (pg_nm (ks := [2]) (by decide) (pg_name (i := 2) sc_renumbered.nd rfl (Or.inl rfl)))) (fun _ _ _ _ _ => pts_nilD) (fun _ _ _ _ _ => (pe_ixD (ix_D (hu_of hr)) (pe_v (pv 1)) (pe_v (pv 2)) (by intro _ _; rfl))))) pa_nilD))))))⟩

/-! ### _used -/
abbrev s__used : Stmt := top 5
def N__used : List Str := ["program", "many", "rows", "used", "k", "operand", "at"]
theorem sc__used : FnScope N__used ["program"] (defScope s__used) := ⟨rfl, rfl, rfl, by decide +kernel, rfl, by decide +kernel, by decide +kernel⟩
def m__used : MS Unit :=
  (mSeq (mAsg (mV 0) (gT (gs1 (gN 1) (gs1 (gN 2) gs0)) 2))
  (mSeq (mSet 3 (mNew (mRepL (mKeep (mLst (mCons (mC (.bool false)) mNil))) (mCall lenD (mCons (mV 2) mNil)))))
  (mSeq (mPutAt 3 (mUn negD (mC (.int 1))) (mC (.bool true)))
  (mSeq (mFor (mRevR1 (mCall lenD (mCons (mV 2) mNil))) (gN 4) (mIfS (mTest (mBin ixD (mV 3) (mV 4))) (mFor (mItems (mCallP [true] f_operands_of (mCons (mBin ixD (mV 2) (mV 4)) mNil))) (gN 5) (mIfS (mTest (mBin geD (mV 5) (mV 1))) (mPutAt 3 (mBin subD (mV 5) (mV 1)) (mC (.bool true))) mSkip)) mSkip))
  (mRet (mKeep (mLc (mRange1 (mCons (mCall lenD (mCons (mV 2) mNil)) mNil)) (gN 6) (mTest (mBin ixD (mV 3) (mV 6))) (mV 6) [6])))))))
def f__used : List PyData → Option PyData := mFun 7 [true] m__used
theorem k__used {P : Program} {w : World} {K : PySem.W.Frag} {mg : Str → Option Value} {base : Heap} {f : Addr} {fd : FuncData} {a_operands_of : Addr} {fd_operands_of : FuncData} (B : Blt mg) (F : Fun K "_used" "_used" s__used f fd) (m : mg "_used" = some (.ref f))
    (D_operands_of : Known P w K mg base 1 "operands_of" s_operands_of a_operands_of fd_operands_of ["row"] (spP K [true] f_operands_of)) :
    Known P w K mg base 2 "_used" s__used f fd ["program"] (spP K [true] f__used) :=
  ⟨m, F, F.binds (ps := ["program"]) fun _ _ _ _ _ _ us hl => match us, hl with | [_], _ => rfl,
    fn_pure F sc__used rfl fun cdv A outer s H F0 E hg hr => (pss_consD (ps_asgD (pe_v (pv 0)) (pg_tp rfl rfl (pgs_1 (pg_nm (ks := [1, 2]) (by decide) (pg_name (i := 1) sc__used.nd rfl (Or.inl rfl))) (pgs_1 (pg_nm (ks := [1, 2]) (by decide) (pg_name (i := 2) sc__used.nd rfl (Or.inl rfl))) (pgs_0 (ks := [1, 2]))))))
  (pss_consD (ps_setD (i := 3) sc__used.nd rfl (Or.inr rfl) (pe_new (pe_repLD (pe_keep (pe_lstD (pa_consD pe_cB pa_nilD))) (pe_bD call_lenDD (by rfl) B.b_len bt_len (pa_consD (pe_v (pv 2)) pa_nilD)))))
  (pss_consD (ps_putAtD (pv 3) (pe_unD un_negD pe_cI) pe_cB)
  (pss_consD (ps_forD PassesOwn.never rfl (pi_revR1D (by rfl) B.b_reversed (by rfl) B.b_range (pe_bD call_lenDD (by rfl) B.b_len bt_len (pa_consD (pe_v (pv 2)) pa_nilD))) (pg_nm (ks := [4]) (by decide) (pg_name (i := 4) sc__used.nd rfl (Or.inl rfl))) (pss_oneD (ps_ifD (pt_b (pe_ixD (ix_D (hu_of hr)) (pe_v (pv 3)) (pe_v (pv 4)) (by intro _ _; rfl))) (pss_oneD (ps_forD PassesOwn.never rfl (pi_seqD rfl (pe_kP D_operands_of hg hr (by rfl) (pa_consD (pe_ixD (ix_D (hu_of hr)) (pe_v (pv 2)) (pe_v (pv 4)) (by intro _ _; rfl)) pa_nilD))) (pg_nm (ks := [5]) (by decide) (pg_name (i := 5) sc__used.nd rfl (Or.inl rfl))) (pss_oneD (ps_ifD (pt_cmpD op_geD (pe_v (pv 5)) (pe_v (pv 1)) (nomark _)) (pss_oneD (ps_putAtD (pv 3) (pe_bin op_subD (pe_v (pv 5)) (pe_v (pv 1))) pe_cB)) pss_nilD)))) pss_nilD)))
  (pss_oneD (ps_retD (pe_keep (pe_lcD (own := [("at", 6)]) rfl sc__used.nd (pi_range1D (by rfl) B.b_range (pa_consD (pe_bD call_lenDD (by rfl) B.b_len bt_len (pa_consD (pe_v (pv 2)) pa_nilD)) pa_nilD)) (blkOk_by (own := [("at", 6)]) (N := N__used) (sc := defScope s__used) (by decide +kernel)) (fun _ _ _ _ _ => (pg_nm (ks := [6]) (by decide) (pg_name (i := 6) sc__used.nd rfl (Or.inl rfl)))) (fun _ _ _ _ _ => (pts_oneD (pt_b (pe_ixD (ix_D (hu_of hr)) (pe_v (pv 3)) (pe_v (pv 6)) (by intro _ _; rfl))))) (fun _ _ _ _ _ => (pe_v (pv 6)))))))))))⟩

/-! ### neat -/
abbrev s_neat : Stmt := top 4
def N_neat : List Str := ["program", "many", "rows", "numbers", "kept", "k"]
theorem sc_neat : FnScope N_neat ["program"] (defScope s_neat) := ⟨rfl, rfl, rfl, by decide +kernel, rfl, by decide +kernel, by decide +kernel⟩
def m_neat : MS Unit :=
  (mSeq (mAsg (mV 0) (gT (gs1 (gN 1) (gs1 (gN 2) gs0)) 2))
  (mSeq (mSet 3 (mNew (mCatL (mKeep (mLRg1 (mV 1))) (mBin mulD (mKeep (mLst (mCons (mC .none) mNil))) (mCall lenD (mCons (mV 2) mNil))))))
  (mSeq (mSet 4 (mNew (mLst mNil)))
  (mSeq (mFor (mItems (mCallP [true] f__used (mCons (mV 0) mNil))) (gN 5) (mSeq (mPutAt 3 (mBin addD (mV 1) (mV 5)) (mBin addD (mV 1) (mCall lenD (mCons (mV 4) mNil))))
  (mApp 4 (mCallP [true, true] f_renumbered (mCons (mBin ixD (mV 2) (mV 5)) (mCons (mV 3) mNil))))))
  (mRet (mTup (mCons (mV 1) (mCons (mCall tupleD (mCons (mV 4) mNil)) mNil))))))))
def f_neat : List PyData → Option PyData := mFun 6 [true] m_neat
theorem k_neat {P : Program} {w : World} {K : PySem.W.Frag} {mg : Str → Option Value} {base : Heap} {f : Addr} {fd : FuncData} {a__used : Addr} {fd__used : FuncData} {a_renumbered : Addr} {fd_renumbered : FuncData} (B : Blt mg) (F : Fun K "neat" "neat" s_neat f fd) (m : mg "neat" = some (.ref f))
    (D__used : Known P w K mg base 2 "_used" s__used a__used fd__used ["program"] (spP K [true] f__used))
    (D_renumbered : Known P w K mg base 1 "renumbered" s_renumbered a_renumbered fd_renumbered ["row", "numbers"] (spP K [true, true] f_renumbered)) :
    Known P w K mg base 3 "neat" s_neat f fd ["program"] (spP K [true] f_neat) :=
  ⟨m, F, F.binds (ps := ["program"]) fun _ _ _ _ _ _ us hl => match us, hl with | [_], _ => rfl,
    fn_pure F sc_neat rfl fun cdv A outer s H F0 E hg hr => (pss_consD (ps_asgD (pe_v (pv 0)) (pg_tp rfl rfl (pgs_1 (pg_nm (ks := [1, 2]) (by decide) (pg_name (i := 1) sc_neat.nd rfl (Or.inl rfl))) (pgs_1 (pg_nm (ks := [1, 2]) (by decide) (pg_name (i := 2) sc_neat.nd rfl (Or.inl rfl))) (pgs_0 (ks := [1, 2]))))))
  (pss_consD (ps_setD (i := 3) sc_neat.nd rfl (Or.inl rfl) (pe_new (pe_catLD (pe_keep (pe_lRg1D rfl (by rfl) B.b_list (by rfl) B.b_range (pe_v (pv 1)))) (pe_bin op_mulD (pe_keep (pe_lstD (pa_consD pe_cN pa_nilD))) (pe_bD call_lenDD (by rfl) B.b_len bt_len (pa_consD (pe_v (pv 2)) pa_nilD))))))
  (pss_consD (ps_setD (i := 4) sc_neat.nd rfl (Or.inl rfl) (pe_new (pe_lstD pa_nilD)))
  (pss_consD (ps_forD PassesOwn.never rfl (pi_seqD rfl (pe_kP D__used hg hr (by rfl) (pa_consD (pe_v (pv 0)) pa_nilD))) (pg_nm (ks := [5]) (by decide) (pg_name (i := 5) sc_neat.nd rfl (Or.inl rfl))) (pss_consD (ps_putAtD (pv 3) (pe_bin op_addD (pe_v (pv 1)) (pe_v (pv 5))) (pe_bin op_addD (pe_v (pv 1)) (pe_bD call_lenDD (by rfl) B.b_len bt_len (pa_consD (pe_v (pv 4)) pa_nilD))))
  (pss_oneD (ps_appD (pv 4) (pe_kP D_renumbered hg hr (by rfl) (pa_consD (pe_ixD (ix_D (hu_of hr)) (pe_v (pv 2)) (pe_v (pv 5)) (by intro _ _; rfl)) (pa_consD (pe_v (pv 3)) pa_nilD)))))))
  (pss_oneD (ps_retD (pe_tupD (pa_consD (pe_v (pv 1)) (pa_consD (pe_tyD call_tupleDD (by rfl) B.b_tuple bt_tuple (pa_consD (pe_v (pv 4)) pa_nilD)) pa_nilD)))))))))⟩

/-! ### _masked -/
abbrev s__masked : Stmt := top 12
def N__masked : List Str := ["bits", "width", "place"]
theorem sc__masked : FnScope N__masked ["bits", "width"] (defScope s__masked) := ⟨rfl, rfl, rfl, by decide +kernel, rfl, by decide +kernel, by decide +kernel⟩
def m__masked : MS Unit :=
  (mRet (mCall sumD (mCons (mKeep (mLc (mRange1 (mCons (mV 1) mNil)) (gN 2) mYes (mBin shlD (mBin ixD (mV 0) (mBin modD (mV 2) (mCall lenD (mCons (mV 0) mNil)))) (mV 2)) [2])) mNil)))
def f__masked : List PyData → Option PyData := mFun 3 [true, true] m__masked
theorem k__masked {P : Program} {w : World} {K : PySem.W.Frag} {mg : Str → Option Value} {base : Heap} {f : Addr} {fd : FuncData} (B : Blt mg) (F : Fun K "_masked" "_masked" s__masked f fd) (m : mg "_masked" = some (.ref f)) :
    Known P w K mg base 1 "_masked" s__masked f fd ["bits", "width"] (spP K [true, true] f__masked) :=
  ⟨m, F, F.binds (ps := ["bits", "width"]) fun _ _ _ _ _ _ us hl => match us, hl with | [_, _], _ => rfl,
    fn_pure F sc__masked rfl fun cdv A outer s H F0 E hg hr => (pss_oneD (ps_retD (pe_bD (call_sumDD rfl) (by rfl) B.b_sum bt_sum (pa_consD (pe_keep (pe_lcD (own := [("place", 2)]) rfl sc__masked.nd (pi_range1D (by rfl) B.b_range (pa_consD (pe_v (pv 1)) pa_nilD)) (blkOk_by (own := [("place", 2)]) (N := N__masked) (sc := defScope s__masked) (by decide +kernel)) (fun _ _ _ _ _ => (pg_nm (ks := [2]) (by decide) (pg_name (i := 2) sc__masked.nd rfl (Or.inl rfl)))) (fun _ _ _ _ _ => pts_nilD) (fun _ _ _ _ _ => (pe_bin op_shlD (pe_ixD (ix_D (hu_of hr)) (pe_v (pv 0)) (pe_bin op_modD (pe_v (pv 2)) (pe_bD call_lenDD (by rfl) B.b_len bt_len (pa_consD (pe_v (pv 0)) pa_nilD))) (by intro _ _; rfl)) (pe_v (pv 2)))))) pa_nilD))))⟩

/-! ### _prefixed -/
abbrev s__prefixed : Stmt := top 13
def N__prefixed : List Str := ["a", "width", "reach"]
theorem sc__prefixed : FnScope N__prefixed ["a", "width"] (defScope s__prefixed) := ⟨rfl, rfl, rfl, by decide +kernel, rfl, by decide +kernel, by decide +kernel⟩
def m__prefixed : MS Unit :=
  (mSeq (mSet 2 (mRv (mC (.int 1))))
  (mSeq (whileN (mTest (mBin ltD (mV 2) (mV 1))) (mSeq (mAug 0 xorD (mBin shlD (mV 0) (mV 2)))
  (mAug 2 addI (mV 2))) 100)
  (mRet (mV 0))))
def f__prefixed : List PyData → Option PyData := mFun 3 [true, true] m__prefixed
theorem k__prefixed {P : Program} {w : World} {K : PySem.W.Frag} {mg : Str → Option Value} {base : Heap} {f : Addr} {fd : FuncData} (B : Blt mg) (F : Fun K "_prefixed" "_prefixed" s__prefixed f fd) (m : mg "_prefixed" = some (.ref f)) :
    Known P w K mg base 1 "_prefixed" s__prefixed f fd ["a", "width"] (spP K [true, true] f__prefixed) :=
  ⟨m, F, F.binds (ps := ["a", "width"]) fun _ _ _ _ _ _ us hl => match us, hl with | [_, _], _ => rfl,
    fn_pure F sc__prefixed rfl fun cdv A outer s H F0 E hg hr => (pss_consD (ps_setD (i := 2) sc__prefixed.nd rfl (Or.inl rfl) (pe_rv pe_cI))
  (pss_consD (ps_whileD 100 PassesOwn.never (pt_cmpD op_ltD (pe_v (pv 2)) (pe_v (pv 1)) (nomark _)) (pss_consD (ps_augD (i := 0) sc__prefixed.nd rfl (Or.inl rfl) (pe_bin op_shlD (pe_v (pv 0)) (pe_v (pv 2))) ip_xorD)
  (pss_oneD (ps_augD (i := 2) sc__prefixed.nd rfl (Or.inl rfl) (pe_v (pv 2)) ip_addD))))
  (pss_oneD (ps_retD (pe_v (pv 0))))))⟩

/-! ### _of_one -/
abbrev s__of_one : Stmt := top 10
def N__of_one : List Str := ["word", "a", "width"]
theorem sc__of_one : FnScope N__of_one ["word", "a", "width"] (defScope s__of_one) := ⟨rfl, rfl, rfl, by decide +kernel, rfl, by decide +kernel, by decide +kernel⟩
def m__of_one : MS Unit :=
  (mSeq (mIfS (mTest (mBin eqD (mV 0) (mC (.str "not")))) (mRet (mUn invD (mV 1))) mSkip)
  (mSeq (mIfS (mTest (mBin eqD (mV 0) (mC (.str "twice")))) (mRet (mBin addD (mV 1) (mV 1))) mSkip)
  (mSeq (mIfS (mTest (mBin eqD (mV 0) (mC (.str "minus")))) (mRet (mUn negD (mV 1))) mSkip)
  (mRet (mCallP [true, true] f__prefixed (mCons (mV 1) (mCons (mV 2) mNil)))))))
def f__of_one : List PyData → Option PyData := mFun 3 [true, true, true] m__of_one
theorem k__of_one {P : Program} {w : World} {K : PySem.W.Frag} {mg : Str → Option Value} {base : Heap} {f : Addr} {fd : FuncData} {a__prefixed : Addr} {fd__prefixed : FuncData} (B : Blt mg) (F : Fun K "_of_one" "_of_one" s__of_one f fd) (m : mg "_of_one" = some (.ref f))
    (D__prefixed : Known P w K mg base 1 "_prefixed" s__prefixed a__prefixed fd__prefixed ["a", "width"] (spP K [true, true] f__prefixed)) :
    Known P w K mg base 2 "_of_one" s__of_one f fd ["word", "a", "width"] (spP K [true, true, true] f__of_one) :=
  ⟨m, F, F.binds (ps := ["word", "a", "width"]) fun _ _ _ _ _ _ us hl => match us, hl with | [_, _, _], _ => rfl,
    fn_pure F sc__of_one rfl fun cdv A outer s H F0 E hg hr => (pss_consD (ps_ifD (pt_cmpD (op_eqDD (hu64 hr)) (pe_v (pv 0)) pe_cS (nomark _)) (pss_oneD (ps_retD (pe_unD un_invD (pe_v (pv 1))))) pss_nilD)
  (pss_consD (ps_ifD (pt_cmpD (op_eqDD (hu64 hr)) (pe_v (pv 0)) pe_cS (nomark _)) (pss_oneD (ps_retD (pe_bin op_addD (pe_v (pv 1)) (pe_v (pv 1))))) pss_nilD)
  (pss_consD (ps_ifD (pt_cmpD (op_eqDD (hu64 hr)) (pe_v (pv 0)) pe_cS (nomark _)) (pss_oneD (ps_retD (pe_unD un_negD (pe_v (pv 1))))) pss_nilD)
  (pss_oneD (ps_retD (pe_kP D__prefixed hg hr (by rfl) (pa_consD (pe_v (pv 1)) (pa_consD (pe_v (pv 2)) pa_nilD))))))))⟩

/-! ### _of_two -/
abbrev s__of_two : Stmt := top 11
def N__of_two : List Str := ["word", "a", "b"]
theorem sc__of_two : FnScope N__of_two ["word", "a", "b"] (defScope s__of_two) := ⟨rfl, rfl, rfl, by decide +kernel, rfl, by decide +kernel, by decide +kernel⟩
def m__of_two : MS Unit :=
  (mSeq (mIfS (mTest (mBin eqD (mV 0) (mC (.str "and")))) (mRet (mBin andD (mV 1) (mV 2))) mSkip)
  (mSeq (mIfS (mTest (mBin eqD (mV 0) (mC (.str "or")))) (mRet (mBin orD (mV 1) (mV 2))) mSkip)
  (mSeq (mIfS (mTest (mBin eqD (mV 0) (mC (.str "xor")))) (mRet (mBin xorD (mV 1) (mV 2))) mSkip)
  (mSeq (mIfS (mTest (mBin eqD (mV 0) (mC (.str "plus")))) (mRet (mBin addD (mV 1) (mV 2))) mSkip)
  (mRet (mBin subD (mV 1) (mV 2)))))))
def f__of_two : List PyData → Option PyData := mFun 3 [true, true, true] m__of_two
theorem k__of_two {P : Program} {w : World} {K : PySem.W.Frag} {mg : Str → Option Value} {base : Heap} {f : Addr} {fd : FuncData} (B : Blt mg) (F : Fun K "_of_two" "_of_two" s__of_two f fd) (m : mg "_of_two" = some (.ref f)) :
    Known P w K mg base 1 "_of_two" s__of_two f fd ["word", "a", "b"] (spP K [true, true, true] f__of_two) :=
  ⟨m, F, F.binds (ps := ["word", "a", "b"]) fun _ _ _ _ _ _ us hl => match us, hl with | [_, _, _], _ => rfl,
    fn_pure F sc__of_two rfl fun cdv A outer s H F0 E hg hr => (pss_consD (ps_ifD (pt_cmpD (op_eqDD (hu64 hr)) (pe_v (pv 0)) pe_cS (nomark _)) (pss_oneD (ps_retD (pe_bin op_andDD (pe_v (pv 1)) (pe_v (pv 2))))) pss_nilD)
  (pss_consD (ps_ifD (pt_cmpD (op_eqDD (hu64 hr)) (pe_v (pv 0)) pe_cS (nomark _)) (pss_oneD (ps_retD (pe_bin op_orDD (pe_v (pv 1)) (pe_v (pv 2))))) pss_nilD)
  (pss_consD (ps_ifD (pt_cmpD (op_eqDD (hu64 hr)) (pe_v (pv 0)) pe_cS (nomark _)) (pss_oneD (ps_retD (pe_bin op_xorDD (pe_v (pv 1)) (pe_v (pv 2))))) pss_nilD)
  (pss_consD (ps_ifD (pt_cmpD (op_eqDD (hu64 hr)) (pe_v (pv 0)) pe_cS (nomark _)) (pss_oneD (ps_retD (pe_bin op_addD (pe_v (pv 1)) (pe_v (pv 2))))) pss_nilD)
  (pss_oneD (ps_retD (pe_bin op_subD (pe_v (pv 1)) (pe_v (pv 2)))))))))⟩

/-! ### _whole -/
abbrev s__whole : Stmt := top 9
def N__whole : List Str := ["row", "width", "known"]
theorem sc__whole : FnScope N__whole ["row", "width", "known"] (defScope s__whole) := ⟨rfl, rfl, rfl, by decide +kernel, rfl, by decide +kernel, by decide +kernel⟩
def m__whole : MS Unit :=
  (mSeq (mIfS (mTest (mBin eqD (mBin ixD (mV 0) (mC (.int 0))) (mC (.str "zero")))) (mRet (mC (.int 0))) mSkip)
  (mSeq (mIfS (mTest (mBin eqD (mBin ixD (mV 0) (mC (.int 0))) (mC (.str "ones")))) (mRet (mUn negD (mC (.int 1)))) mSkip)
  (mSeq (mIfS (mTest (mBin eqD (mBin ixD (mV 0) (mC (.int 0))) (mC (.str "mask")))) (mRet (mCallP [true, true] f__masked (mCons (mBin ixD (mV 0) (mC (.int 1))) (mCons (mV 1) mNil)))) mSkip)
  (mSeq (mIfS (mTest (mBin eqD (mCall lenD (mCons (mV 0) mNil)) (mC (.int 2)))) (mRet (mCallP [true, true, true] f__of_one (mCons (mBin ixD (mV 0) (mC (.int 0))) (mCons (mBin ixD (mV 2) (mBin ixD (mV 0) (mC (.int 1)))) (mCons (mV 1) mNil))))) mSkip)
  (mRet (mCallP [true, true, true] f__of_two (mCons (mBin ixD (mV 0) (mC (.int 0))) (mCons (mBin ixD (mV 2) (mBin ixD (mV 0) (mC (.int 1)))) (mCons (mBin ixD (mV 2) (mBin ixD (mV 0) (mC (.int 2)))) mNil)))))))))
def f__whole : List PyData → Option PyData := mFun 3 [true, true, true] m__whole
theorem k__whole {P : Program} {w : World} {K : PySem.W.Frag} {mg : Str → Option Value} {base : Heap} {f : Addr} {fd : FuncData} {a__masked : Addr} {fd__masked : FuncData} {a__of_one : Addr} {fd__of_one : FuncData} {a__of_two : Addr} {fd__of_two : FuncData} (B : Blt mg) (F : Fun K "_whole" "_whole" s__whole f fd) (m : mg "_whole" = some (.ref f))
    (D__masked : Known P w K mg base 1 "_masked" s__masked a__masked fd__masked ["bits", "width"] (spP K [true, true] f__masked))
    (D__of_one : Known P w K mg base 2 "_of_one" s__of_one a__of_one fd__of_one ["word", "a", "width"] (spP K [true, true, true] f__of_one))
    (D__of_two : Known P w K mg base 1 "_of_two" s__of_two a__of_two fd__of_two ["word", "a", "b"] (spP K [true, true, true] f__of_two)) :
    Known P w K mg base 3 "_whole" s__whole f fd ["row", "width", "known"] (spP K [true, true, true] f__whole) :=
  ⟨m, F, F.binds (ps := ["row", "width", "known"]) fun _ _ _ _ _ _ us hl => match us, hl with | [_, _, _], _ => rfl,
    fn_pure F sc__whole rfl fun cdv A outer s H F0 E hg hr => (pss_consD (ps_ifD (pt_cmpD (op_eqDD (hu64 hr)) (pe_ixD (ix_D (hu_of hr)) (pe_v (pv 0)) pe_cI (by intro _ _; rfl)) pe_cS (nomark _)) (pss_oneD (ps_retD pe_cI)) pss_nilD)
  (pss_consD (ps_ifD (pt_cmpD (op_eqDD (hu64 hr)) (pe_ixD (ix_D (hu_of hr)) (pe_v (pv 0)) pe_cI (by intro _ _; rfl)) pe_cS (nomark _)) (pss_oneD (ps_retD (pe_unD un_negD pe_cI))) pss_nilD)
  (pss_consD (ps_ifD (pt_cmpD (op_eqDD (hu64 hr)) (pe_ixD (ix_D (hu_of hr)) (pe_v (pv 0)) pe_cI (by intro _ _; rfl)) pe_cS (nomark _)) (pss_oneD (ps_retD (pe_kP D__masked hg hr (by rfl) (pa_consD (pe_ixD (ix_D (hu_of hr)) (pe_v (pv 0)) pe_cI (by intro _ _; rfl)) (pa_consD (pe_v (pv 1)) pa_nilD))))) pss_nilD)
  (pss_consD (ps_ifD (pt_cmpD (op_eqDD (hu64 hr)) (pe_bD call_lenDD (by rfl) B.b_len bt_len (pa_consD (pe_v (pv 0)) pa_nilD)) pe_cI (nomark _)) (pss_oneD (ps_retD (pe_kP D__of_one hg hr (by rfl) (pa_consD (pe_ixD (ix_D (hu_of hr)) (pe_v (pv 0)) pe_cI (by intro _ _; rfl)) (pa_consD (pe_ixD (ix_D (hu_of hr)) (pe_v (pv 2)) (pe_ixD (ix_D (hu_of hr)) (pe_v (pv 0)) pe_cI (by intro _ _; rfl)) (by intro _ _; rfl)) (pa_consD (pe_v (pv 1)) pa_nilD)))))) pss_nilD)
  (pss_oneD (ps_retD (pe_kP D__of_two hg hr (by rfl) (pa_consD (pe_ixD (ix_D (hu_of hr)) (pe_v (pv 0)) pe_cI (by intro _ _; rfl)) (pa_consD (pe_ixD (ix_D (hu_of hr)) (pe_v (pv 2)) (pe_ixD (ix_D (hu_of hr)) (pe_v (pv 0)) pe_cI (by intro _ _; rfl)) (by intro _ _; rfl)) (pa_consD (pe_ixD (ix_D (hu_of hr)) (pe_v (pv 2)) (pe_ixD (ix_D (hu_of hr)) (pe_v (pv 0)) pe_cI (by intro _ _; rfl)) (by intro _ _; rfl)) pa_nilD))))))))))⟩

/-! ### values -/
abbrev s_values : Stmt := top 7
def N_values : List Str := ["program", "width", "words", "many", "rows", "ones", "known", "row"]
theorem sc_values : FnScope N_values ["program", "width", "words"] (defScope s_values) := ⟨rfl, rfl, rfl, by decide +kernel, rfl, by decide +kernel, by decide +kernel⟩
def m_values : MS Unit :=
  (mSeq (mAsg (mV 0) (gT (gs1 (gN 3) (gs1 (gN 4) gs0)) 2))
  (mSeq (mSet 5 (mRv (mBin subD (mBin shlD (mC (.int 1)) (mV 1)) (mC (.int 1)))))
  (mSeq (mSet 6 (mNew (mListL (mCons (mV 2) mNil))))
  (mSeq (mFor (mItems (mV 4)) (gN 7) (mApp 6 (mBin andD (mCallP [true, true, true] f__whole (mCons (mV 7) (mCons (mV 1) (mCons (mV 6) mNil)))) (mV 5))))
  (mRet (mCall tupleD (mCons (mSl (mV 6) (mPart (mV 3)) mNoP) mNil)))))))
def f_values : List PyData → Option PyData := mFun 8 [true, true, true] m_values
theorem k_values {P : Program} {w : World} {K : PySem.W.Frag} {mg : Str → Option Value} {base : Heap} {f : Addr} {fd : FuncData} {a__whole : Addr} {fd__whole : FuncData} (B : Blt mg) (F : Fun K "values" "values" s_values f fd) (m : mg "values" = some (.ref f))
    (D__whole : Known P w K mg base 3 "_whole" s__whole a__whole fd__whole ["row", "width", "known"] (spP K [true, true, true] f__whole)) :
    Known P w K mg base 4 "values" s_values f fd ["program", "width", "words"] (spP K [true, true, true] f_values) :=
  ⟨m, F, F.binds (ps := ["program", "width", "words"]) fun _ _ _ _ _ _ us hl => match us, hl with | [_, _, _], _ => rfl,
    fn_pure F sc_values rfl fun cdv A outer s H F0 E hg hr => (pss_consD (ps_asgD (pe_v (pv 0)) (pg_tp rfl rfl (pgs_1 (pg_nm (ks := [3, 4]) (by decide) (pg_name (i := 3) sc_values.nd rfl (Or.inl rfl))) (pgs_1 (pg_nm (ks := [3, 4]) (by decide) (pg_name (i := 4) sc_values.nd rfl (Or.inl rfl))) (pgs_0 (ks := [3, 4]))))))
  (pss_consD (ps_setD (i := 5) sc_values.nd rfl (Or.inl rfl) (pe_rv (pe_bin op_subD (pe_bin op_shlD pe_cI (pe_v (pv 1))) pe_cI)))
  (pss_consD (ps_setD (i := 6) sc_values.nd rfl (Or.inl rfl) (pe_new (pe_listL rfl (by rfl) B.b_list bt_list (pa_consD (pe_v (pv 2)) pa_nilD))))
  (pss_consD (ps_forD PassesOwn.never rfl (pi_seqD rfl (pe_v (pv 4))) (pg_nm (ks := [7]) (by decide) (pg_name (i := 7) sc_values.nd rfl (Or.inl rfl))) (pss_oneD (ps_appD (pv 6) (pe_bin op_andDD (pe_kP D__whole hg hr (by rfl) (pa_consD (pe_v (pv 7)) (pa_consD (pe_v (pv 1)) (pa_consD (pe_v (pv 6)) pa_nilD)))) (pe_v (pv 5))))))
  (pss_oneD (ps_retD (pe_tyD call_tupleDD (by rfl) B.b_tuple bt_tuple (pa_consD (pe_slD sl_D (pe_v (pv 6)) (po_someD (pe_v (pv 3))) po_noneD) pa_nilD))))))))⟩

/-! ### result -/
abbrev s_result : Stmt := top 8
def N_result : List Str := ["program", "width", "words"]
theorem sc_result : FnScope N_result ["program", "width", "words"] (defScope s_result) := ⟨rfl, rfl, rfl, by decide +kernel, rfl, by decide +kernel, by decide +kernel⟩
def m_result : MS Unit :=
  (mRet (mBin ixD (mCallP [true, true, true] f_values (mCons (mV 0) (mCons (mV 1) (mCons (mV 2) mNil)))) (mUn negD (mC (.int 1)))))
def f_result : List PyData → Option PyData := mFun 3 [true, true, true] m_result
theorem k_result {P : Program} {w : World} {K : PySem.W.Frag} {mg : Str → Option Value} {base : Heap} {f : Addr} {fd : FuncData} {a_values : Addr} {fd_values : FuncData} (B : Blt mg) (F : Fun K "result" "result" s_result f fd) (m : mg "result" = some (.ref f))
    (D_values : Known P w K mg base 4 "values" s_values a_values fd_values ["program", "width", "words"] (spP K [true, true, true] f_values)) :
    Known P w K mg base 5 "result" s_result f fd ["program", "width", "words"] (spP K [true, true, true] f_result) :=
  ⟨m, F, F.binds (ps := ["program", "width", "words"]) fun _ _ _ _ _ _ us hl => match us, hl with | [_, _, _], _ => rfl,
    fn_pure F sc_result rfl fun cdv A outer s H F0 E hg hr => (pss_oneD (ps_retD (pe_ixD (ix_D (hu_of hr)) (pe_kP D_values hg hr (by rfl) (pa_consD (pe_v (pv 0)) (pa_consD (pe_v (pv 1)) (pa_consD (pe_v (pv 2)) pa_nilD)))) (pe_unD un_negD pe_cI) (by intro _ _; rfl))))⟩

/-! ### _law_bag -/
abbrev s__law_bag : Stmt := top 15
def N__law_bag : List Str := ["script", "cells", "stirred", "cell"]
theorem sc__law_bag : FnScope N__law_bag ["script"] (defScope s__law_bag) := ⟨rfl, rfl, rfl, by decide +kernel, rfl, by decide +kernel, by decide +kernel⟩
def m__law_bag (ns : List Int) : MS Unit :=
  (mSeq (mPar 1 2 (mConsV (mRv (mKeep (mLc (mItems (mKeep (mScrCut ns 63 (mV 0)))) (gN 3) mYes (mBin addD (mBin mulD (mC (.int 2)) (mCall absD (mCons (mV 3) mNil))) (mCall intD (mCons (mBin ltD (mV 3) (mC (.int 0))) mNil))) [3]))) (mConsV (mRv (mBin addD (mC (.int 15029)) (mBin mulD (mC (.int 13)) (mScrLen ns (mV 0))))) mNilV)))
  (mSeq (mFor (mItems (mV 1)) (gN 3) (mSet 2 (mRv (mBin modD (mCall intD (mCons (mBin addD (mBin addD (mBin mulD (mV 2) (mC (.int 69621))) (mV 3)) (mC (.int 9))) mNil)) (mC (.int 4294967291))))))
  (mRet (mKeep (mDict [.inr "far", .inr "stirred", .inr "count"] (mCons (mKeep (mLc (mItems (mV 1)) (gN 3) (mTest (mBin gtD (mV 3) (mBin powD (mC (.int 10)) (mC (.int 15))))) (mV 3) [3])) (mCons (mV 2) (mCons (mC (.int 0)) mNil))))))))
def f__law_bag : List Int → Option PyData := mFunS 4 m__law_bag
theorem k__law_bag {P : Program} {w : World} {K : PySem.W.Frag} {mg : Str → Option Value} {base : Heap} {f : Addr} {fd : FuncData} (B : Blt mg) (F : Fun K "_law_bag" "_law_bag" s__law_bag f fd) (m : mg "_law_bag" = some (.ref f)) :
    Known P w K mg base 1 "_law_bag" s__law_bag f fd ["script"] (spS K f__law_bag) :=
  ⟨m, F, F.binds (ps := ["script"]) fun _ _ _ _ _ _ us hl => match us, hl with | [_], _ => rfl,
    fn_script F sc__law_bag fun ns a cdv A outer s H E hg hr hS hz => (pss_consD (ps_parD (i := 1) (j := 2) rfl sc__law_bag.nd rfl rfl (by decide) rfl rfl (pa_consV (pe_rv (pe_keep (pe_lcD (own := [("cell", 3)]) rfl sc__law_bag.nd (pi_seqD rfl (pe_keep (pe_scrCut rfl hS hz (pe_v (pv 0))))) (blkOk_by (own := [("cell", 3)]) (N := N__law_bag) (sc := defScope s__law_bag) (by decide +kernel)) (fun _ _ _ _ _ => (pg_nm (ks := [3]) (by decide) (pg_name (i := 3) sc__law_bag.nd rfl (Or.inl rfl)))) (fun _ _ _ _ _ => pts_nilD) (fun _ _ _ _ _ => (pe_bin op_addD (pe_bin op_mulD pe_cI (pe_bD call_absDD (by rfl) B.b_abs bt_abs (pa_consD (pe_v (pv 3)) pa_nilD))) (pe_tyD call_intDD (by rfl) B.b_int bt_int (pa_consD (pe_cmpD op_ltD (pe_v (pv 3)) pe_cI (nomark _)) pa_nilD))))))) (pa_consV (pe_rv (pe_bin op_addD pe_cI (pe_bin op_mulD pe_cI (pe_scrLen rfl hS rfl B.b_len (pe_v (pv 0)))))) pa_nilV)) rfl)
  (pss_consD (ps_forD PassesOwn.never rfl (pi_seqD rfl (pe_v (pv 1))) (pg_nm (ks := [3]) (by decide) (pg_name (i := 3) sc__law_bag.nd rfl (Or.inl rfl))) (pss_oneD (ps_setD (i := 2) sc__law_bag.nd rfl (Or.inl rfl) (pe_rv (pe_bin op_modD (pe_tyD call_intDD (by rfl) B.b_int bt_int (pa_consD (pe_bin op_addD (pe_bin op_addD (pe_bin op_mulD (pe_v (pv 2)) pe_cI) (pe_v (pv 3))) pe_cI) pa_nilD)) pe_cI)))))
  (pss_oneD (ps_retD (pe_keep (pe_dictD (.str (.str (.str .nil))) (.cons (pe_keep (pe_lcD (own := [("cell", 3)]) rfl sc__law_bag.nd (pi_seqD rfl (pe_v (pv 1))) (blkOk_by (own := [("cell", 3)]) (N := N__law_bag) (sc := defScope s__law_bag) (by decide +kernel)) (fun _ _ _ _ _ => (pg_nm (ks := [3]) (by decide) (pg_name (i := 3) sc__law_bag.nd rfl (Or.inl rfl)))) (fun _ _ _ _ _ => (pts_oneD (pt_cmpD op_gtD (pe_v (pv 3)) (pe_bin op_powD pe_cI pe_cI) (nomark _)))) (fun _ _ _ _ _ => (pe_v (pv 3))))) (.cons (pe_v (pv 2)) (.cons pe_cI .nil)))))))))⟩

/-! ### _law_draw -/
abbrev s__law_draw : Stmt := top 16
def N__law_draw : List Str := ["bag", "many", "far", "mixed", "cell"]
theorem sc__law_draw : FnScope N__law_draw ["bag", "many"] (defScope s__law_draw) := ⟨rfl, rfl, rfl, by decide +kernel, rfl, by decide +kernel, by decide +kernel⟩
def m__law_draw : MS Tr :=
  (mSeq (mSet 2 (mRv (mFar (mV 0))))
  (mSeq (mIfS (mFarNe (mV 2)) (mSeq (mSet 4 (mRv (mFarAt (mV 2) (mC (.int 0)))))
  (mSeq (mFarPut (mV 2) (mC (.int 0)) (mBin fdivD (mV 4) (mV 1)))
  (mSeq (mIfS (mTest (mBin ltD (mV 4) (mV 1))) (mDrop (mPop0 (mV 2))) mSkip)
  (mRet (mBin modD (mCall intD (mCons (mV 4) mNil)) (mV 1)))))) mSkip)
  (mSeq (mTput "far" "count" (mV 0) (mBin addD (mTget "far" "count" (mV 0)) (mC (.int 1))))
  (mSeq (mSet 3 (mRv (mBin modD (mCall intD (mCons (mBin addD (mTget "far" "stirred" (mV 0)) (mBin mulD (mC (.int 2654435761)) (mTget "far" "count" (mV 0)))) mNil)) (mC (.int 4294967291)))))
  (mSeq (mSet 3 (mRv (mBin modD (mCall intD (mCons (mBin addD (mBin addD (mBin mulD (mV 3) (mV 3)) (mBin mulD (mC (.int 40503)) (mTget "far" "count" (mV 0)))) (mC (.int 5))) mNil)) (mC (.int 4294967279)))))
  (mSeq (mSet 3 (mRv (mBin modD (mCall intD (mCons (mBin addD (mBin mulD (mV 3) (mV 3)) (mTget "far" "stirred" (mV 0))) mNil)) (mC (.int 4294967231)))))
  (mRet (mBin modD (mCall intD (mCons (mBin fdivD (mV 3) (mC (.int 512))) mNil)) (mV 1)))))))))
def f__law_draw : Tr → List PyData → Option (PyData × Tr) := mFunT 5 [true] m__law_draw
theorem k__law_draw {P : Program} {w : World} {K : PySem.W.Frag} {mg : Str → Option Value} {base : Heap} {f : Addr} {fd : FuncData} (B : Blt mg) (F : Fun K "_law_draw" "_law_draw" s__law_draw f fd) (m : mg "_law_draw" = some (.ref f)) :
    Known P w K mg base 1 "_law_draw" s__law_draw f fd ["bag", "many"] (spT K "far" [true] f__law_draw) :=
  ⟨m, F, F.binds (ps := ["bag", "many"]) fun _ _ _ _ _ _ us hl => match us, hl with | [_, _], _ => rfl,
    fn_tray F sc__law_draw rfl (by decide) fun ta g cdv A outer s H F0 E hg hr => (pss_consD (ps_setD (i := 2) sc__law_draw.nd rfl (Or.inl rfl) (pe_rv (pe_far (hu_of hr) (pe_v (pv 0)))))
  (pss_consD (ps_ifD (pt_farNe (hu64 hr) rfl (pe_v (pv 2))) (pss_consD (ps_setD (i := 4) sc__law_draw.nd rfl (Or.inl rfl) (pe_rv (pe_farAt rfl (pe_v (pv 2)) pe_cI)))
  (pss_consD (ps_farPut (pe_v (pv 2)) pe_cI (pe_bin op_fdivD (pe_v (pv 4)) (pe_v (pv 1))))
  (pss_consD (ps_ifD (pt_cmpD op_ltD (pe_v (pv 4)) (pe_v (pv 1)) (nomark _)) (pss_oneD (ps_exprD (pe_pop0 rfl (pe_v (pv 2))))) pss_nilD)
  (pss_oneD (ps_retD (pe_bin op_modD (pe_tyD call_intDD (by rfl) B.b_int bt_int (pa_consD (pe_v (pv 4)) pa_nilD)) (pe_v (pv 1)))))))) pss_nilD)
  (pss_consD (ps_tput (hu_of hr) (pe_v (pv 0)) (pe_bin op_addD (pe_tget (hu_of hr) (pe_v (pv 0))) pe_cI))
  (pss_consD (ps_setD (i := 3) sc__law_draw.nd rfl (Or.inl rfl) (pe_rv (pe_bin op_modD (pe_tyD call_intDD (by rfl) B.b_int bt_int (pa_consD (pe_bin op_addD (pe_tget (hu_of hr) (pe_v (pv 0))) (pe_bin op_mulD pe_cI (pe_tget (hu_of hr) (pe_v (pv 0))))) pa_nilD)) pe_cI)))
  (pss_consD (ps_setD (i := 3) sc__law_draw.nd rfl (Or.inl rfl) (pe_rv (pe_bin op_modD (pe_tyD call_intDD (by rfl) B.b_int bt_int (pa_consD (pe_bin op_addD (pe_bin op_addD (pe_bin op_mulD (pe_v (pv 3)) (pe_v (pv 3))) (pe_bin op_mulD pe_cI (pe_tget (hu_of hr) (pe_v (pv 0))))) pe_cI) pa_nilD)) pe_cI)))
  (pss_consD (ps_setD (i := 3) sc__law_draw.nd rfl (Or.inl rfl) (pe_rv (pe_bin op_modD (pe_tyD call_intDD (by rfl) B.b_int bt_int (pa_consD (pe_bin op_addD (pe_bin op_mulD (pe_v (pv 3)) (pe_v (pv 3))) (pe_tget (hu_of hr) (pe_v (pv 0)))) pa_nilD)) pe_cI)))
  (pss_oneD (ps_retD (pe_bin op_modD (pe_tyD call_intDD (by rfl) B.b_int bt_int (pa_consD (pe_bin op_fdivD (pe_v (pv 3)) pe_cI) pa_nilD)) (pe_v (pv 1)))))))))))⟩

/-! ### _law_pick -/
abbrev s__law_pick : Stmt := top 17
def N__law_pick : List Str := ["bag", "items"]
theorem sc__law_pick : FnScope N__law_pick ["bag", "items"] (defScope s__law_pick) := ⟨rfl, rfl, rfl, by decide +kernel, rfl, by decide +kernel, by decide +kernel⟩
def m__law_pick : MS Tr :=
  (mRet (mBin ixD (mV 1) (mCallT [true] f__law_draw (mCons (mV 0) (mCons (mCall lenD (mCons (mV 1) mNil)) mNil)))))
def f__law_pick : Tr → List PyData → Option (PyData × Tr) := mFunT 2 [true] m__law_pick
theorem k__law_pick {P : Program} {w : World} {K : PySem.W.Frag} {mg : Str → Option Value} {base : Heap} {f : Addr} {fd : FuncData} {a__law_draw : Addr} {fd__law_draw : FuncData} (B : Blt mg) (F : Fun K "_law_pick" "_law_pick" s__law_pick f fd) (m : mg "_law_pick" = some (.ref f))
    (D__law_draw : Known P w K mg base 1 "_law_draw" s__law_draw a__law_draw fd__law_draw ["bag", "many"] (spT K "far" [true] f__law_draw)) :
    Known P w K mg base 2 "_law_pick" s__law_pick f fd ["bag", "items"] (spT K "far" [true] f__law_pick) :=
  ⟨m, F, F.binds (ps := ["bag", "items"]) fun _ _ _ _ _ _ us hl => match us, hl with | [_, _], _ => rfl,
    fn_tray F sc__law_pick rfl (by decide) fun ta g cdv A outer s H F0 E hg hr => (pss_oneD (ps_retD (pe_ixD (ix_D (hu_of hr)) (pe_v (pv 1)) (pe_kT D__law_draw hg hr (by rfl) (pa_consD (pe_v (pv 0)) (pa_consD (pe_bD call_lenDD (by rfl) B.b_len bt_len (pa_consD (pe_v (pv 1)) pa_nilD)) pa_nilD))) (by intro _ _; rfl))))⟩

/-! ### _law_power -/
abbrev s__law_power : Stmt := top 18
def N__law_power : List Str := ["width", "found", "place"]
theorem sc__law_power : FnScope N__law_power ["width"] (defScope s__law_power) := ⟨rfl, rfl, rfl, by decide +kernel, rfl, by decide +kernel, by decide +kernel⟩
def m__law_power : MS Unit :=
  (mSeq (mSet 1 (mRv (mC (.int 1))))
  (mSeq (mFor (mRange1 (mCons (mV 0) mNil)) (gN 2) (mSet 1 (mRv (mBin mulD (mC (.int 2)) (mV 1)))))
  (mRet (mV 1))))
def f__law_power : List PyData → Option PyData := mFun 3 [true] m__law_power
theorem k__law_power {P : Program} {w : World} {K : PySem.W.Frag} {mg : Str → Option Value} {base : Heap} {f : Addr} {fd : FuncData} (B : Blt mg) (F : Fun K "_law_power" "_law_power" s__law_power f fd) (m : mg "_law_power" = some (.ref f)) :
    Known P w K mg base 1 "_law_power" s__law_power f fd ["width"] (spP K [true] f__law_power) :=
  ⟨m, F, F.binds (ps := ["width"]) fun _ _ _ _ _ _ us hl => match us, hl with | [_], _ => rfl,
    fn_pure F sc__law_power rfl fun cdv A outer s H F0 E hg hr => (pss_consD (ps_setD (i := 1) sc__law_power.nd rfl (Or.inl rfl) (pe_rv pe_cI))
  (pss_consD (ps_forD PassesOwn.never rfl (pi_range1D (by rfl) B.b_range (pa_consD (pe_v (pv 0)) pa_nilD)) (pg_nm (ks := [2]) (by decide) (pg_name (i := 2) sc__law_power.nd rfl (Or.inl rfl))) (pss_oneD (ps_setD (i := 1) sc__law_power.nd rfl (Or.inl rfl) (pe_rv (pe_bin op_mulD pe_cI (pe_v (pv 1)))))))
  (pss_oneD (ps_retD (pe_v (pv 1))))))⟩

/-! ### _law_arity -/
abbrev s__law_arity : Stmt := top 19
def N__law_arity : List Str := ["word"]
theorem sc__law_arity : FnScope N__law_arity ["word"] (defScope s__law_arity) := ⟨rfl, rfl, rfl, by decide +kernel, rfl, by decide +kernel, by decide +kernel⟩
def m__law_arity : MS Unit :=
  (mSeq (mIfS (mNot (mTest (mIsi "str" (mV 0)))) (mRet (mUn negD (mC (.int 1)))) mSkip)
  (mSeq (mIfS (mTest (mBin inD (mV 0) (mTup (mCons (mC (.str "zero")) (mCons (mC (.str "ones")) mNil))))) (mRet (mC (.int 0))) mSkip)
  (mSeq (mIfS (mTest (mBin inD (mV 0) (mTup (mCons (mC (.str "not")) (mCons (mC (.str "twice")) (mCons (mC (.str "minus")) (mCons (mC (.str "prefix")) (mCons (mC (.str "mask")) mNil)))))))) (mRet (mC (.int 1))) mSkip)
  (mRet (mIf (mTest (mBin inD (mV 0) (mTup (mCons (mC (.str "and")) (mCons (mC (.str "or")) (mCons (mC (.str "xor")) (mCons (mC (.str "plus")) (mCons (mC (.str "less")) mNil)))))))) (mC (.int 2)) (mUn negD (mC (.int 1))))))))
def f__law_arity : List PyData → Option PyData := mFun 1 [true] m__law_arity
theorem k__law_arity {P : Program} {w : World} {K : PySem.W.Frag} {mg : Str → Option Value} {base : Heap} {f : Addr} {fd : FuncData} (B : Blt mg) (F : Fun K "_law_arity" "_law_arity" s__law_arity f fd) (m : mg "_law_arity" = some (.ref f)) :
    Known P w K mg base 1 "_law_arity" s__law_arity f fd ["word"] (spP K [true] f__law_arity) :=
  ⟨m, F, F.binds (ps := ["word"]) fun _ _ _ _ _ _ us hl => match us, hl with | [_], _ => rfl,
    fn_pure F sc__law_arity rfl fun cdv A outer s H F0 E hg hr => (pss_consD (ps_ifD (pt_notD (pt_b (pe_isi (u := .none) ty_str (by rfl) B.b_isinstance bt_isinstance (pe_v (pv 0)) (by rfl) B.b_str bt_str rfl))) (pss_oneD (ps_retD (pe_unD un_negD pe_cI))) pss_nilD)
  (pss_consD (ps_ifD (pt_cmpD op_inD (pe_v (pv 0)) (pe_tupD (pa_consD pe_cS (pa_consD pe_cS pa_nilD))) (by rfl)) (pss_oneD (ps_retD pe_cI)) pss_nilD)
  (pss_consD (ps_ifD (pt_cmpD op_inD (pe_v (pv 0)) (pe_tupD (pa_consD pe_cS (pa_consD pe_cS (pa_consD pe_cS (pa_consD pe_cS (pa_consD pe_cS pa_nilD)))))) (by rfl)) (pss_oneD (ps_retD pe_cI)) pss_nilD)
  (pss_oneD (ps_retD (pe_ifD (pt_cmpD op_inD (pe_v (pv 0)) (pe_tupD (pa_consD pe_cS (pa_consD pe_cS (pa_consD pe_cS (pa_consD pe_cS (pa_consD pe_cS pa_nilD)))))) (by rfl)) pe_cI (pe_unD un_negD pe_cI)))))))⟩

/-! ### _law_book -/
abbrev s__law_book : Stmt := top 20
def N__law_book : List Str := ["spot", "plain", "sums", "lists"]
theorem sc__law_book : FnScope N__law_book ["spot"] (defScope s__law_book) := ⟨rfl, rfl, rfl, by decide +kernel, rfl, by decide +kernel, by decide +kernel⟩
def m__law_book : MS Unit :=
  (mSeq (mSet 1 (mRv (mKeep (mLst (mCons (mC (.str "zero")) (mCons (mC (.str "ones")) (mCons (mC (.str "not")) (mCons (mC (.str "and")) (mCons (mC (.str "or")) (mCons (mC (.str "xor")) mNil))))))))))
  (mSeq (mSet 2 (mRv (mBin addD (mV 1) (mKeep (mLst (mCons (mC (.str "twice")) (mCons (mC (.str "minus")) (mCons (mC (.str "plus")) (mCons (mC (.str "less")) mNil)))))))))
  (mSeq (mSet 3 (mRv (mKeep (mLst (mCons (mV 1) (mCons (mBin addD (mV 1) (mKeep (mLst (mCons (mC (.str "prefix")) mNil)))) (mCons (mBin addD (mV 1) (mKeep (mLst (mCons (mC (.str "twice")) mNil)))) (mCons (mBin addD (mV 1) (mKeep (mLst (mCons (mC (.str "minus")) mNil)))) (mCons (mV 2) (mCons (mBin addD (mV 2) (mKeep (mLst (mCons (mC (.str "mask")) mNil)))) (mCons (mBin addD (mV 2) (mKeep (mLst (mCons (mC (.str "prefix")) mNil)))) mNil)))))))))))
  (mRet (mBin ixD (mV 3) (mV 0))))))
def f__law_book : List PyData → Option PyData := mFun 4 [true] m__law_book
theorem k__law_book {P : Program} {w : World} {K : PySem.W.Frag} {mg : Str → Option Value} {base : Heap} {f : Addr} {fd : FuncData} (B : Blt mg) (F : Fun K "_law_book" "_law_book" s__law_book f fd) (m : mg "_law_book" = some (.ref f)) :
    Known P w K mg base 1 "_law_book" s__law_book f fd ["spot"] (spP K [true] f__law_book) :=
  ⟨m, F, F.binds (ps := ["spot"]) fun _ _ _ _ _ _ us hl => match us, hl with | [_], _ => rfl,
    fn_pure F sc__law_book rfl fun cdv A outer s H F0 E hg hr => (pss_consD (ps_setD (i := 1) sc__law_book.nd rfl (Or.inl rfl) (pe_rv (pe_keep (pe_lstD (pa_consD pe_cS (pa_consD pe_cS (pa_consD pe_cS (pa_consD pe_cS (pa_consD pe_cS (pa_consD pe_cS pa_nilD))))))))))
  (pss_consD (ps_setD (i := 2) sc__law_book.nd rfl (Or.inl rfl) (pe_rv (pe_bin op_addD (pe_v (pv 1)) (pe_keep (pe_lstD (pa_consD pe_cS (pa_consD pe_cS (pa_consD pe_cS (pa_consD pe_cS pa_nilD)))))))))
  (pss_consD (ps_setD (i := 3) sc__law_book.nd rfl (Or.inl rfl) (pe_rv (pe_keep (pe_lstD (pa_consD (pe_v (pv 1)) (pa_consD (pe_bin op_addD (pe_v (pv 1)) (pe_keep (pe_lstD (pa_consD pe_cS pa_nilD)))) (pa_consD (pe_bin op_addD (pe_v (pv 1)) (pe_keep (pe_lstD (pa_consD pe_cS pa_nilD)))) (pa_consD (pe_bin op_addD (pe_v (pv 1)) (pe_keep (pe_lstD (pa_consD pe_cS pa_nilD)))) (pa_consD (pe_v (pv 2)) (pa_consD (pe_bin op_addD (pe_v (pv 2)) (pe_keep (pe_lstD (pa_consD pe_cS pa_nilD)))) (pa_consD (pe_bin op_addD (pe_v (pv 2)) (pe_keep (pe_lstD (pa_consD pe_cS pa_nilD)))) pa_nilD)))))))))))
  (pss_oneD (ps_retD (pe_ixD (ix_D (hu_of hr)) (pe_v (pv 3)) (pe_v (pv 0)) (by intro _ _; rfl)))))))⟩

/-! ### _law_operand -/
abbrev s__law_operand : Stmt := top 21
def N__law_operand : List Str := ["bag", "top"]
theorem sc__law_operand : FnScope N__law_operand ["bag", "top"] (defScope s__law_operand) := ⟨rfl, rfl, rfl, by decide +kernel, rfl, by decide +kernel, by decide +kernel⟩
def m__law_operand : MS Tr :=
  (mRet (mIf (mTest (mBin eqD (mCallT [true] f__law_draw (mCons (mV 0) (mCons (mC (.int 2)) mNil))) (mC (.int 0)))) (mBin subD (mBin subD (mV 1) (mC (.int 1))) (mCallT [true] f__law_draw (mCons (mV 0) (mCons (mCall minD (mCons (mC (.int 3)) (mCons (mV 1) mNil))) mNil)))) (mCallT [true] f__law_draw (mCons (mV 0) (mCons (mV 1) mNil)))))
def f__law_operand : Tr → List PyData → Option (PyData × Tr) := mFunT 2 [true] m__law_operand
theorem k__law_operand {P : Program} {w : World} {K : PySem.W.Frag} {mg : Str → Option Value} {base : Heap} {f : Addr} {fd : FuncData} {a__law_draw : Addr} {fd__law_draw : FuncData} (B : Blt mg) (F : Fun K "_law_operand" "_law_operand" s__law_operand f fd) (m : mg "_law_operand" = some (.ref f))
    (D__law_draw : Known P w K mg base 1 "_law_draw" s__law_draw a__law_draw fd__law_draw ["bag", "many"] (spT K "far" [true] f__law_draw)) :
    Known P w K mg base 2 "_law_operand" s__law_operand f fd ["bag", "top"] (spT K "far" [true] f__law_operand) :=
  ⟨m, F, F.binds (ps := ["bag", "top"]) fun _ _ _ _ _ _ us hl => match us, hl with | [_, _], _ => rfl,
    fn_tray F sc__law_operand rfl (by decide) fun ta g cdv A outer s H F0 E hg hr => (pss_oneD (ps_retD (pe_ifD (pt_cmpD (op_eqDD (hu64 hr)) (pe_kT D__law_draw hg hr (by rfl) (pa_consD (pe_v (pv 0)) (pa_consD pe_cI pa_nilD))) pe_cI (nomark _)) (pe_bin op_subD (pe_bin op_subD (pe_v (pv 1)) pe_cI) (pe_kT D__law_draw hg hr (by rfl) (pa_consD (pe_v (pv 0)) (pa_consD (pe_bD (call_minDD rfl) (by rfl) B.b_min bt_min (pa_consD pe_cI (pa_consD (pe_v (pv 1)) pa_nilD))) pa_nilD)))) (pe_kT D__law_draw hg hr (by rfl) (pa_consD (pe_v (pv 0)) (pa_consD (pe_v (pv 1)) pa_nilD))))))⟩

/-! ### _law_row -/
abbrev s__law_row : Stmt := top 22
def N__law_row : List Str := ["bag", "word", "top", "many", "spot", "place"]
theorem sc__law_row : FnScope N__law_row ["bag", "word", "top"] (defScope s__law_row) := ⟨rfl, rfl, rfl, by decide +kernel, rfl, by decide +kernel, by decide +kernel⟩
def m__law_row : MS Tr :=
  (mSeq (mIfS (mTest (mBin eqD (mV 1) (mC (.str "mask")))) (mSeq (mSet 3 (mRv (mBin addD (mC (.int 1)) (mCallT [true] f__law_draw (mCons (mV 0) (mCons (mCallT [true] f__law_pick (mCons (mV 0) (mCons (mKeep (mLst (mCons (mC (.int 3)) (mCons (mC (.int 8)) (mCons (mC (.int 24)) mNil))))) mNil))) mNil))))))
  (mRet (mTup (mCons (mV 1) (mCons (mCall tupleD (mCons (mKeep (mLc (mRange1 (mCons (mV 3) mNil)) (gN 5) mYes (mCallT [true] f__law_draw (mCons (mV 0) (mCons (mC (.int 2)) mNil))) [5])) mNil)) mNil))))) mSkip)
  (mRet (mBin addD (mTup (mCons (mV 1) mNil)) (mCall tupleD (mCons (mKeep (mLc (mRange1 (mCons (mCallP [true] f__law_arity (mCons (mV 1) mNil)) mNil)) (gN 4) mYes (mCallT [true] f__law_operand (mCons (mV 0) (mCons (mV 2) mNil))) [4])) mNil)))))
def f__law_row : Tr → List PyData → Option (PyData × Tr) := mFunT 6 [true, true] m__law_row
theorem k__law_row {P : Program} {w : World} {K : PySem.W.Frag} {mg : Str → Option Value} {base : Heap} {f : Addr} {fd : FuncData} {a__law_draw : Addr} {fd__law_draw : FuncData} {a__law_pick : Addr} {fd__law_pick : FuncData} {a__law_arity : Addr} {fd__law_arity : FuncData} {a__law_operand : Addr} {fd__law_operand : FuncData} (B : Blt mg) (F : Fun K "_law_row" "_law_row" s__law_row f fd) (m : mg "_law_row" = some (.ref f))
    (D__law_draw : Known P w K mg base 1 "_law_draw" s__law_draw a__law_draw fd__law_draw ["bag", "many"] (spT K "far" [true] f__law_draw))
    (D__law_pick : Known P w K mg base 2 "_law_pick" s__law_pick a__law_pick fd__law_pick ["bag", "items"] (spT K "far" [true] f__law_pick))
    (D__law_arity : Known P w K mg base 1 "_law_arity" s__law_arity a__law_arity fd__law_arity ["word"] (spP K [true] f__law_arity))
    (D__law_operand : Known P w K mg base 2 "_law_operand" s__law_operand a__law_operand fd__law_operand ["bag", "top"] (spT K "far" [true] f__law_operand)) :
    Known P w K mg base 3 "_law_row" s__law_row f fd ["bag", "word", "top"] (spT K "far" [true, true] f__law_row) :=
  ⟨m, F, F.binds (ps := ["bag", "word", "top"]) fun _ _ _ _ _ _ us hl => match us, hl with | [_, _, _], _ => rfl,
    fn_tray F sc__law_row rfl (by decide) fun ta g cdv A outer s H F0 E hg hr => (pss_consD (ps_ifD (pt_cmpD (op_eqDD (hu64 hr)) (pe_v (pv 1)) pe_cS (nomark _)) (pss_consD (ps_setD (i := 3) sc__law_row.nd rfl (Or.inl rfl) (pe_rv (pe_bin op_addD pe_cI (pe_kT D__law_draw hg hr (by rfl) (pa_consD (pe_v (pv 0)) (pa_consD (pe_kT D__law_pick hg hr (by rfl) (pa_consD (pe_v (pv 0)) (pa_consD (pe_keep (pe_lstD (pa_consD pe_cI (pa_consD pe_cI (pa_consD pe_cI pa_nilD))))) pa_nilD))) pa_nilD))))))
  (pss_oneD (ps_retD (pe_tupD (pa_consD (pe_v (pv 1)) (pa_consD (pe_tyD call_tupleDD (by rfl) B.b_tuple bt_tuple (pa_consD (pe_keep (pe_lcD (own := [("place", 5)]) rfl sc__law_row.nd (pi_range1D (by rfl) B.b_range (pa_consD (pe_v (pv 3)) pa_nilD)) (blkOk_by (own := [("place", 5)]) (N := N__law_row) (sc := defScope s__law_row) (by decide +kernel)) (fun _ _ _ _ _ => (pg_nm (ks := [5]) (by decide) (pg_name (i := 5) sc__law_row.nd rfl (Or.inl rfl)))) (fun _ _ _ _ _ => pts_nilD) (fun _ _ _ _ _ => (pe_kT D__law_draw hg hr (by rfl) (pa_consD (pe_v (pv 0)) (pa_consD pe_cI pa_nilD)))))) pa_nilD)) pa_nilD)))))) pss_nilD)
  (pss_oneD (ps_retD (pe_bin op_addD (pe_tupD (pa_consD (pe_v (pv 1)) pa_nilD)) (pe_tyD call_tupleDD (by rfl) B.b_tuple bt_tuple (pa_consD (pe_keep (pe_lcD (own := [("spot", 4)]) rfl sc__law_row.nd (pi_range1D (by rfl) B.b_range (pa_consD (pe_kP D__law_arity hg hr (by rfl) (pa_consD (pe_v (pv 1)) pa_nilD)) pa_nilD)) (blkOk_by (own := [("spot", 4)]) (N := N__law_row) (sc := defScope s__law_row) (by decide +kernel)) (fun _ _ _ _ _ => (pg_nm (ks := [4]) (by decide) (pg_name (i := 4) sc__law_row.nd rfl (Or.inl rfl)))) (fun _ _ _ _ _ => pts_nilD) (fun _ _ _ _ _ => (pe_kT D__law_operand hg hr (by rfl) (pa_consD (pe_v (pv 0)) (pa_consD (pe_v (pv 2)) pa_nilD)))))) pa_nilD))))))⟩

/-! ### _law_program -/
abbrev s__law_program : Stmt := top 23
def N__law_program : List Str := ["bag", "many", "size", "words", "rows", "k", "word"]
theorem sc__law_program : FnScope N__law_program ["bag", "many", "size", "words"] (defScope s__law_program) := ⟨rfl, rfl, rfl, by decide +kernel, rfl, by decide +kernel, by decide +kernel⟩
def m__law_program : MS Tr :=
  (mSeq (mSet 4 (mNew (mLst mNil)))
  (mSeq (mFor (mRange1 (mCons (mV 2) mNil)) (gN 5) (mSeq (mSet 6 (mRv (mCallT [true] f__law_pick (mCons (mV 0) (mCons (mV 3) mNil)))))
  (mSeq (mIfS (mAnd (mTest (mBin eqD (mBin addD (mV 1) (mV 5)) (mC (.int 0)))) (mTest (mBin notInD (mV 6) (mTup (mCons (mC (.str "zero")) (mCons (mC (.str "ones")) (mCons (mC (.str "mask")) mNil))))))) (mSet 6 (mRv (mCallT [true] f__law_pick (mCons (mV 0) (mCons (mKeep (mLst (mCons (mC (.str "zero")) (mCons (mC (.str "ones")) mNil)))) mNil))))) mSkip)
  (mApp 4 (mCallT [true, true] f__law_row (mCons (mV 0) (mCons (mV 6) (mCons (mBin addD (mV 1) (mV 5)) mNil))))))))
  (mRet (mTup (mCons (mV 1) (mCons (mCall tupleD (mCons (mV 4) mNil)) mNil))))))
def f__law_program : Tr → List PyData → Option (PyData × Tr) := mFunT 7 [true, true, true] m__law_program
theorem k__law_program {P : Program} {w : World} {K : PySem.W.Frag} {mg : Str → Option Value} {base : Heap} {f : Addr} {fd : FuncData} {a__law_pick : Addr} {fd__law_pick : FuncData} {a__law_row : Addr} {fd__law_row : FuncData} (B : Blt mg) (F : Fun K "_law_program" "_law_program" s__law_program f fd) (m : mg "_law_program" = some (.ref f))
    (D__law_pick : Known P w K mg base 2 "_law_pick" s__law_pick a__law_pick fd__law_pick ["bag", "items"] (spT K "far" [true] f__law_pick))
    (D__law_row : Known P w K mg base 3 "_law_row" s__law_row a__law_row fd__law_row ["bag", "word", "top"] (spT K "far" [true, true] f__law_row)) :
    Known P w K mg base 4 "_law_program" s__law_program f fd ["bag", "many", "size", "words"] (spT K "far" [true, true, true] f__law_program) :=
  ⟨m, F, F.binds (ps := ["bag", "many", "size", "words"]) fun _ _ _ _ _ _ us hl => match us, hl with | [_, _, _, _], _ => rfl,
    fn_tray F sc__law_program rfl (by decide) fun ta g cdv A outer s H F0 E hg hr => (pss_consD (ps_setD (i := 4) sc__law_program.nd rfl (Or.inl rfl) (pe_new (pe_lstD pa_nilD)))
  (pss_consD (ps_forD PassesOwn.never rfl (pi_range1D (by rfl) B.b_range (pa_consD (pe_v (pv 2)) pa_nilD)) (pg_nm (ks := [5]) (by decide) (pg_name (i := 5) sc__law_program.nd rfl (Or.inl rfl))) (pss_consD (ps_setD (i := 6) sc__law_program.nd rfl (Or.inl rfl) (pe_rv (pe_kT D__law_pick hg hr (by rfl) (pa_consD (pe_v (pv 0)) (pa_consD (pe_v (pv 3)) pa_nilD)))))
  (pss_consD (ps_ifD ((pw_andD (pt_cmpD (op_eqDD (hu64 hr)) (pe_bin op_addD (pe_v (pv 1)) (pe_v (pv 5))) pe_cI (nomark _)) (pw_and1 (pt_cmpD op_notInD (pe_v (pv 6)) (pe_tupD (pa_consD pe_cS (pa_consD pe_cS (pa_consD pe_cS pa_nilD)))) (by rfl))))).pt (pss_oneD (ps_setD (i := 6) sc__law_program.nd rfl (Or.inl rfl) (pe_rv (pe_kT D__law_pick hg hr (by rfl) (pa_consD (pe_v (pv 0)) (pa_consD (pe_keep (pe_lstD (pa_consD pe_cS (pa_consD pe_cS pa_nilD)))) pa_nilD)))))) pss_nilD)
  (pss_oneD (ps_appD (pv 4) (pe_kT D__law_row hg hr (by rfl) (pa_consD (pe_v (pv 0)) (pa_consD (pe_v (pv 6)) (pa_consD (pe_bin op_addD (pe_v (pv 1)) (pe_v (pv 5))) pa_nilD)))))))))
  (pss_oneD (ps_retD (pe_tupD (pa_consD (pe_v (pv 1)) (pa_consD (pe_tyD call_tupleDD (by rfl) B.b_tuple bt_tuple (pa_consD (pe_v (pv 4)) pa_nilD)) pa_nilD)))))))⟩

/-! ### _law_any_words -/
abbrev s__law_any_words : Stmt := top 24
def N__law_any_words : List Str := ["bag"]
theorem sc__law_any_words : FnScope N__law_any_words ["bag"] (defScope s__law_any_words) := ⟨rfl, rfl, rfl, by decide +kernel, rfl, by decide +kernel, by decide +kernel⟩
def m__law_any_words : MS Tr :=
  (mRet (mIf (mTest (mBin eqD (mCallT [true] f__law_draw (mCons (mV 0) (mCons (mC (.int 2)) mNil))) (mC (.int 0)))) (mCallP [true] f__law_book (mCons (mCallT [true] f__law_draw (mCons (mV 0) (mCons (mC (.int 7)) mNil))) mNil)) (mBin addD (mCallP [true] f__law_book (mCons (mC (.int 5)) mNil)) (mKeep (mLst (mCons (mC (.str "prefix")) (mCons (mC (.str "prefix")) mNil)))))))
def f__law_any_words : Tr → List PyData → Option (PyData × Tr) := mFunT 1 [] m__law_any_words
theorem k__law_any_words {P : Program} {w : World} {K : PySem.W.Frag} {mg : Str → Option Value} {base : Heap} {f : Addr} {fd : FuncData} {a__law_draw : Addr} {fd__law_draw : FuncData} {a__law_book : Addr} {fd__law_book : FuncData} (B : Blt mg) (F : Fun K "_law_any_words" "_law_any_words" s__law_any_words f fd) (m : mg "_law_any_words" = some (.ref f))
    (D__law_draw : Known P w K mg base 1 "_law_draw" s__law_draw a__law_draw fd__law_draw ["bag", "many"] (spT K "far" [true] f__law_draw))
    (D__law_book : Known P w K mg base 1 "_law_book" s__law_book a__law_book fd__law_book ["spot"] (spP K [true] f__law_book)) :
    Known P w K mg base 2 "_law_any_words" s__law_any_words f fd ["bag"] (spT K "far" [] f__law_any_words) :=
  ⟨m, F, F.binds (ps := ["bag"]) fun _ _ _ _ _ _ us hl => match us, hl with | [_], _ => rfl,
    fn_tray F sc__law_any_words rfl (by decide) fun ta g cdv A outer s H F0 E hg hr => (pss_oneD (ps_retD (pe_ifD (pt_cmpD (op_eqDD (hu64 hr)) (pe_kT D__law_draw hg hr (by rfl) (pa_consD (pe_v (pv 0)) (pa_consD pe_cI pa_nilD))) pe_cI (nomark _)) (pe_kP D__law_book hg hr (by rfl) (pa_consD (pe_kT D__law_draw hg hr (by rfl) (pa_consD (pe_v (pv 0)) (pa_consD pe_cI pa_nilD))) pa_nilD)) (pe_bin op_addD (pe_kP D__law_book hg hr (by rfl) (pa_consD pe_cI pa_nilD)) (pe_keep (pe_lstD (pa_consD pe_cS (pa_consD pe_cS pa_nilD))))))))⟩

/-! ### _law_handed -/
abbrev s__law_handed : Stmt := top 25
def N__law_handed : List Str := ["bag", "many", "width", "found", "top", "turn", "word", "place", "some"]
theorem sc__law_handed : FnScope N__law_handed ["bag", "many", "width"] (defScope s__law_handed) := ⟨rfl, rfl, rfl, by decide +kernel, rfl, by decide +kernel, by decide +kernel⟩
def m__law_handed : MS Tr :=
  (mSeq (mPar 3 4 (mConsV (mNew (mLst mNil)) (mConsV (mRv (mCallP [true] f__law_power (mCons (mV 2) mNil))) mNilV)))
  (mSeq (mFor (mRange1 (mCons (mV 1) mNil)) (gN 5) (mSeq (mSet 6 (mRv (mC (.int 0))))
  (mSeq (mFor (mRange1 (mCons (mBin addD (mBin fdivD (mV 2) (mC (.int 16))) (mC (.int 1))) mNil)) (gN 7) (mSet 6 (mRv (mBin addD (mBin mulD (mC (.int 65536)) (mV 6)) (mCallT [true] f__law_draw (mCons (mV 0) (mCons (mC (.int 65536)) mNil)))))))
  (mSeq (mSet 8 (mRv (mBin addD (mBin mulD (mKeep (mLst (mCons (mBin modD (mV 6) (mV 4)) mNil))) (mC (.int 4))) (mKeep (mLst (mCons (mC (.int 0)) (mCons (mBin subD (mV 4) (mC (.int 1))) (mCons (mBin fdivD (mV 4) (mC (.int 2))) (mCons (mC (.int 1)) mNil)))))))))
  (mApp 3 (mCallT [true] f__law_pick (mCons (mV 0) (mCons (mV 8) mNil))))))))
  (mRet (mCall tupleD (mCons (mV 3) mNil)))))
def f__law_handed : Tr → List PyData → Option (PyData × Tr) := mFunT 9 [true, true] m__law_handed
theorem k__law_handed {P : Program} {w : World} {K : PySem.W.Frag} {mg : Str → Option Value} {base : Heap} {f : Addr} {fd : FuncData} {a__law_power : Addr} {fd__law_power : FuncData} {a__law_draw : Addr} {fd__law_draw : FuncData} {a__law_pick : Addr} {fd__law_pick : FuncData} (B : Blt mg) (F : Fun K "_law_handed" "_law_handed" s__law_handed f fd) (m : mg "_law_handed" = some (.ref f))
    (D__law_power : Known P w K mg base 1 "_law_power" s__law_power a__law_power fd__law_power ["width"] (spP K [true] f__law_power))
    (D__law_draw : Known P w K mg base 1 "_law_draw" s__law_draw a__law_draw fd__law_draw ["bag", "many"] (spT K "far" [true] f__law_draw))
    (D__law_pick : Known P w K mg base 2 "_law_pick" s__law_pick a__law_pick fd__law_pick ["bag", "items"] (spT K "far" [true] f__law_pick)) :
    Known P w K mg base 3 "_law_handed" s__law_handed f fd ["bag", "many", "width"] (spT K "far" [true, true] f__law_handed) :=
  ⟨m, F, F.binds (ps := ["bag", "many", "width"]) fun _ _ _ _ _ _ us hl => match us, hl with | [_, _, _], _ => rfl,
    fn_tray F sc__law_handed rfl (by decide) fun ta g cdv A outer s H F0 E hg hr => (pss_consD (ps_parD (i := 3) (j := 4) rfl sc__law_handed.nd rfl rfl (by decide) rfl rfl (pa_consV (pe_new (pe_lstD pa_nilD)) (pa_consV (pe_rv (pe_kP D__law_power hg hr (by rfl) (pa_consD (pe_v (pv 2)) pa_nilD))) pa_nilV)) rfl)
  (pss_consD (ps_forD PassesOwn.never rfl (pi_range1D (by rfl) B.b_range (pa_consD (pe_v (pv 1)) pa_nilD)) (pg_nm (ks := [5]) (by decide) (pg_name (i := 5) sc__law_handed.nd rfl (Or.inl rfl))) (pss_consD (ps_setD (i := 6) sc__law_handed.nd rfl (Or.inl rfl) (pe_rv pe_cI))
  (pss_consD (ps_forD PassesOwn.never rfl (pi_range1D (by rfl) B.b_range (pa_consD (pe_bin op_addD (pe_bin op_fdivD (pe_v (pv 2)) pe_cI) pe_cI) pa_nilD)) (pg_nm (ks := [7]) (by decide) (pg_name (i := 7) sc__law_handed.nd rfl (Or.inl rfl))) (pss_oneD (ps_setD (i := 6) sc__law_handed.nd rfl (Or.inl rfl) (pe_rv (pe_bin op_addD (pe_bin op_mulD pe_cI (pe_v (pv 6))) (pe_kT D__law_draw hg hr (by rfl) (pa_consD (pe_v (pv 0)) (pa_consD pe_cI pa_nilD))))))))
  (pss_consD (ps_setD (i := 8) sc__law_handed.nd rfl (Or.inl rfl) (pe_rv (pe_bin op_addD (pe_bin op_mulD (pe_keep (pe_lstD (pa_consD (pe_bin op_modD (pe_v (pv 6)) (pe_v (pv 4))) pa_nilD))) pe_cI) (pe_keep (pe_lstD (pa_consD pe_cI (pa_consD (pe_bin op_subD (pe_v (pv 4)) pe_cI) (pa_consD (pe_bin op_fdivD (pe_v (pv 4)) pe_cI) (pa_consD pe_cI pa_nilD)))))))))
  (pss_oneD (ps_appD (pv 3) (pe_kT D__law_pick hg hr (by rfl) (pa_consD (pe_v (pv 0)) (pa_consD (pe_v (pv 8)) pa_nilD)))))))))
  (pss_oneD (ps_retD (pe_tyD call_tupleDD (by rfl) B.b_tuple bt_tuple (pa_consD (pe_v (pv 3)) pa_nilD))))))⟩

/-! ### _law_used -/
abbrev s__law_used : Stmt := top 26
def N__law_used : List Str := ["program", "many", "rows", "found", "k", "own"]
theorem sc__law_used : FnScope N__law_used ["program"] (defScope s__law_used) := ⟨rfl, rfl, rfl, by decide +kernel, rfl, by decide +kernel, by decide +kernel⟩
def m__law_used : MS Unit :=
  (mSeq (mAsg (mV 0) (gT (gs1 (gN 1) (gs1 (gN 2) gs0)) 2))
  (mSeq (mSet 3 (mNew (mLst (mCons (mBin subD (mCall lenD (mCons (mV 2) mNil)) (mC (.int 1))) mNil))))
  (mSeq (mFor (mRange3 (mCons (mBin subD (mCall lenD (mCons (mV 2) mNil)) (mC (.int 1))) (mCons (mUn negD (mC (.int 1))) (mCons (mUn negD (mC (.int 1))) mNil)))) (gN 4) (mIfS (mAnd (mTest (mBin inD (mV 4) (mV 3))) (mTest (mBin neD (mBin ixD (mBin ixD (mV 2) (mV 4)) (mC (.int 0))) (mC (.str "mask"))))) (mFor (mItems (mSl (mBin ixD (mV 2) (mV 4)) (mPart (mC (.int 1))) mNoP)) (gN 5) (mIfS (mAnd (mTest (mBin geD (mV 5) (mV 1))) (mTest (mBin notInD (mBin subD (mV 5) (mV 1)) (mV 3)))) (mApp 3 (mBin subD (mV 5) (mV 1))) mSkip)) mSkip))
  (mRet (mCall sortedD (mCons (mV 3) mNil))))))
def f__law_used : List PyData → Option PyData := mFun 6 [true] m__law_used
theorem k__law_used {P : Program} {w : World} {K : PySem.W.Frag} {mg : Str → Option Value} {base : Heap} {f : Addr} {fd : FuncData} (B : Blt mg) (F : Fun K "_law_used" "_law_used" s__law_used f fd) (m : mg "_law_used" = some (.ref f)) :
    Known P w K mg base 1 "_law_used" s__law_used f fd ["program"] (spP K [true] f__law_used) :=
  ⟨m, F, F.binds (ps := ["program"]) fun _ _ _ _ _ _ us hl => match us, hl with | [_], _ => rfl,
    fn_pure F sc__law_used rfl fun cdv A outer s H F0 E hg hr => (pss_consD (ps_asgD (pe_v (pv 0)) (pg_tp rfl rfl (pgs_1 (pg_nm (ks := [1, 2]) (by decide) (pg_name (i := 1) sc__law_used.nd rfl (Or.inl rfl))) (pgs_1 (pg_nm (ks := [1, 2]) (by decide) (pg_name (i := 2) sc__law_used.nd rfl (Or.inl rfl))) (pgs_0 (ks := [1, 2]))))))
  (pss_consD (ps_setD (i := 3) sc__law_used.nd rfl (Or.inl rfl) (pe_new (pe_lstD (pa_consD (pe_bin op_subD (pe_bD call_lenDD (by rfl) B.b_len bt_len (pa_consD (pe_v (pv 2)) pa_nilD)) pe_cI) pa_nilD))))
  (pss_consD (ps_forD PassesOwn.never rfl (pi_range3D (by rfl) B.b_range (pa_consD (pe_bin op_subD (pe_bD call_lenDD (by rfl) B.b_len bt_len (pa_consD (pe_v (pv 2)) pa_nilD)) pe_cI) (pa_consD (pe_unD un_negD pe_cI) (pa_consD (pe_unD un_negD pe_cI) pa_nilD)))) (pg_nm (ks := [4]) (by decide) (pg_name (i := 4) sc__law_used.nd rfl (Or.inl rfl))) (pss_oneD (ps_ifD ((pw_andD (pt_cmpD op_inD (pe_v (pv 4)) (pe_v (pv 3)) (by rfl)) (pw_and1 (pt_cmpD (op_neDD (hu64 hr)) (pe_ixD (ix_D (hu_of hr)) (pe_ixD (ix_D (hu_of hr)) (pe_v (pv 2)) (pe_v (pv 4)) (by intro _ _; rfl)) pe_cI (by intro _ _; rfl)) pe_cS (nomark _))))).pt (pss_oneD (ps_forD PassesOwn.never rfl (pi_seqD rfl (pe_slD sl_D (pe_ixD (ix_D (hu_of hr)) (pe_v (pv 2)) (pe_v (pv 4)) (by intro _ _; rfl)) (po_someD pe_cI) po_noneD)) (pg_nm (ks := [5]) (by decide) (pg_name (i := 5) sc__law_used.nd rfl (Or.inl rfl))) (pss_oneD (ps_ifD ((pw_andD (pt_cmpD op_geD (pe_v (pv 5)) (pe_v (pv 1)) (nomark _)) (pw_and1 (pt_cmpD op_notInD (pe_bin op_subD (pe_v (pv 5)) (pe_v (pv 1))) (pe_v (pv 3)) (by rfl))))).pt (pss_oneD (ps_appD (pv 3) (pe_bin op_subD (pe_v (pv 5)) (pe_v (pv 1))))) pss_nilD)))) pss_nilD)))
  (pss_oneD (ps_retD (pe_bD call_sortedDD (by rfl) B.b_sorted bt_sorted (pa_consD (pe_v (pv 3)) pa_nilD)))))))⟩

/-! ### _law_neat -/
abbrev s__law_neat : Stmt := top 27
def N__law_neat : List Str := ["program", "many", "rows", "kept", "calls", "found", "k", "row", "further", "nth", "own"]
theorem sc__law_neat : FnScope N__law_neat ["program"] (defScope s__law_neat) := ⟨rfl, rfl, rfl, by decide +kernel, rfl, by decide +kernel, by decide +kernel⟩
def m__law_neat : MS Unit :=
  (mSeq (mAsg (mV 0) (gT (gs1 (gN 1) (gs1 (gN 2) gs0)) 2))
  (mSeq (mSet 3 (mRv (mCallP [true] f__law_used (mCons (mV 0) mNil))))
  (mSeq (mSet 4 (mRv (mCall dictPr (mCons (mKeep (mLc (mEnum (mV 3)) (gT (gs1 (gN 9) (gs1 (gN 6) gs0)) 2) mYes (mTup (mCons (mBin addD (mV 1) (mV 6)) (mCons (mBin addD (mV 1) (mV 9)) mNil))) [9, 6])) mNil))))
  (mSeq (mSet 5 (mNew (mLst mNil)))
  (mSeq (mFor (mItems (mV 3)) (gN 6) (mSeq (mSet 7 (mRv (mBin ixD (mV 2) (mV 6))))
  (mSeq (mSet 8 (mRv (mIf (mTest (mBin eqD (mBin ixD (mV 7) (mC (.int 0))) (mC (.str "mask")))) (mSl (mV 7) (mPart (mC (.int 1))) mNoP) (mCall tupleD (mCons (mKeep (mLc (mItems (mSl (mV 7) (mPart (mC (.int 1))) mNoP)) (gN 10) mYes (mDGet2 (mV 4) (mV 10) (mV 10)) [10])) mNil)))))
  (mApp 5 (mBin addD (mSl (mV 7) mNoP (mPart (mC (.int 1)))) (mV 8))))))
  (mRet (mTup (mCons (mV 1) (mCons (mCall tupleD (mCons (mV 5) mNil)) mNil)))))))))
def f__law_neat : List PyData → Option PyData := mFun 11 [true] m__law_neat
theorem k__law_neat {P : Program} {w : World} {K : PySem.W.Frag} {mg : Str → Option Value} {base : Heap} {f : Addr} {fd : FuncData} {a__law_used : Addr} {fd__law_used : FuncData} (B : Blt mg) (F : Fun K "_law_neat" "_law_neat" s__law_neat f fd) (m : mg "_law_neat" = some (.ref f))
    (D__law_used : Known P w K mg base 1 "_law_used" s__law_used a__law_used fd__law_used ["program"] (spP K [true] f__law_used)) :
    Known P w K mg base 2 "_law_neat" s__law_neat f fd ["program"] (spP K [true] f__law_neat) :=
  ⟨m, F, F.binds (ps := ["program"]) fun _ _ _ _ _ _ us hl => match us, hl with | [_], _ => rfl,
    fn_pure F sc__law_neat rfl fun cdv A outer s H F0 E hg hr => (pss_consD (ps_asgD (pe_v (pv 0)) (pg_tp rfl rfl (pgs_1 (pg_nm (ks := [1, 2]) (by decide) (pg_name (i := 1) sc__law_neat.nd rfl (Or.inr rfl))) (pgs_1 (pg_nm (ks := [1, 2]) (by decide) (pg_name (i := 2) sc__law_neat.nd rfl (Or.inl rfl))) (pgs_0 (ks := [1, 2]))))))
  (pss_consD (ps_setD (i := 3) sc__law_neat.nd rfl (Or.inl rfl) (pe_rv (pe_kP D__law_used hg hr (by rfl) (pa_consD (pe_v (pv 0)) pa_nilD))))
  (pss_consD (ps_setD (i := 4) sc__law_neat.nd rfl (Or.inr rfl) (pe_rv (pe_tyD (call_dictPr rfl) (by rfl) B.b_dict bt_dict (pa_consD (pe_keep (pe_lcD (own := [("nth", 9), ("k", 6)]) rfl sc__law_neat.nd (pi_enumD rfl (by rfl) B.b_enumerate (pe_v (pv 3))) (blkOk_by (own := [("nth", 9), ("k", 6)]) (N := N__law_neat) (sc := defScope s__law_neat) (by decide +kernel)) (fun _ _ _ _ _ => (pg_tp rfl rfl (pgs_1 (pg_nm (ks := [9, 6]) (by decide) (pg_name (i := 9) sc__law_neat.nd rfl (Or.inl rfl))) (pgs_1 (pg_nm (ks := [9, 6]) (by decide) (pg_name (i := 6) sc__law_neat.nd rfl (Or.inl rfl))) (pgs_0 (ks := [9, 6])))))) (fun _ _ _ _ _ => pts_nilD) (fun _ _ _ _ _ => (pe_tupD (pa_consD (pe_bin op_addD (pe_v (pv 1)) (pe_v (pv 6))) (pa_consD (pe_bin op_addD (pe_v (pv 1)) (pe_v (pv 9))) pa_nilD)))))) pa_nilD))))
  (pss_consD (ps_setD (i := 5) sc__law_neat.nd rfl (Or.inl rfl) (pe_new (pe_lstD pa_nilD)))
  (pss_consD (ps_forD PassesOwn.never rfl (pi_seqD rfl (pe_v (pv 3))) (pg_nm (ks := [6]) (by decide) (pg_name (i := 6) sc__law_neat.nd rfl (Or.inl rfl))) (pss_consD (ps_setD (i := 7) sc__law_neat.nd rfl (Or.inl rfl) (pe_rv (pe_ixD (ix_D (hu_of hr)) (pe_v (pv 2)) (pe_v (pv 6)) (by intro _ _; rfl))))
  (pss_consD (ps_setD (i := 8) sc__law_neat.nd rfl (Or.inl rfl) (pe_rv (pe_ifD (pt_cmpD (op_eqDD (hu64 hr)) (pe_ixD (ix_D (hu_of hr)) (pe_v (pv 7)) pe_cI (by intro _ _; rfl)) pe_cS (nomark _)) (pe_slD sl_D (pe_v (pv 7)) (po_someD pe_cI) po_noneD) (pe_tyD call_tupleDD (by rfl) B.b_tuple bt_tuple (pa_consD (pe_keep (pe_lcD (own := [("own", 10)]) rfl sc__law_neat.nd (pi_seqD rfl (pe_slD sl_D (pe_v (pv 7)) (po_someD pe_cI) po_noneD)) (blkOk_by (own := [("own", 10)]) (N := N__law_neat) (sc := defScope s__law_neat) (by decide +kernel)) (fun _ _ _ _ _ => (pg_nm (ks := [10]) (by decide) (pg_name (i := 10) sc__law_neat.nd rfl (Or.inl rfl)))) (fun _ _ _ _ _ => pts_nilD) (fun _ _ _ _ _ => (pe_dget2D (hu_of hr) (pe_v (pv 4)) (pe_v (pv 10)) (pe_v (pv 10)) ⟨rfl, rfl, rfl, rfl⟩)))) pa_nilD)))))
  (pss_oneD (ps_appD (pv 5) (pe_bin op_addD (pe_slD sl_D (pe_v (pv 7)) po_noneD (po_someD pe_cI)) (pe_v (pv 8))))))))
  (pss_oneD (ps_retD (pe_tupD (pa_consD (pe_v (pv 1)) (pa_consD (pe_tyD call_tupleDD (by rfl) B.b_tuple bt_tuple (pa_consD (pe_v (pv 5)) pa_nilD)) pa_nilD))))))))))⟩

/-! ### _law_thin -/
abbrev s__law_thin : Stmt := top 28
def N__law_thin : List Str := ["bag", "many", "size", "program", "spot", "last"]
theorem sc__law_thin : FnScope N__law_thin ["bag", "many", "size"] (defScope s__law_thin) := ⟨rfl, rfl, rfl, by decide +kernel, rfl, by decide +kernel, by decide +kernel⟩
def m__law_thin : MS Tr :=
  (mSeq (mSet 3 (mRv (mCallT [true, true, true] f__law_program (mCons (mV 0) (mCons (mV 1) (mCons (mV 2) (mCons (mCallP [true] f__law_book (mCons (mC (.int 4)) mNil)) mNil)))))))
  (mSeq (mSet 4 (mRv (mIf (mTest (mBin gtD (mV 2) (mC (.int 1)))) (mCallT [true] f__law_draw (mCons (mV 0) (mCons (mCall minD (mCons (mV 2) (mCons (mC (.int 6)) mNil))) mNil))) (mC (.int 0)))))
  (mSeq (mSet 5 (mRv (mTup (mCons (mC (.str "xor")) (mCons (mBin addD (mV 1) (mV 4)) (mCons (mBin addD (mV 1) (mCall maxD (mCons (mC (.int 0)) (mCons (mBin subD (mV 4) (mC (.int 1))) mNil)))) mNil))))))
  (mRet (mIf (mTest (mBin gtD (mV 2) (mC (.int 6)))) (mTup (mCons (mV 1) (mCons (mBin addD (mSl (mBin ixD (mV 3) (mC (.int 1))) mNoP (mPart (mUn negD (mC (.int 1))))) (mTup (mCons (mV 5) mNil))) mNil))) (mV 3))))))
def f__law_thin : Tr → List PyData → Option (PyData × Tr) := mFunT 6 [true, true] m__law_thin
theorem k__law_thin {P : Program} {w : World} {K : PySem.W.Frag} {mg : Str → Option Value} {base : Heap} {f : Addr} {fd : FuncData} {a__law_program : Addr} {fd__law_program : FuncData} {a__law_book : Addr} {fd__law_book : FuncData} {a__law_draw : Addr} {fd__law_draw : FuncData} (B : Blt mg) (F : Fun K "_law_thin" "_law_thin" s__law_thin f fd) (m : mg "_law_thin" = some (.ref f))
    (D__law_program : Known P w K mg base 4 "_law_program" s__law_program a__law_program fd__law_program ["bag", "many", "size", "words"] (spT K "far" [true, true, true] f__law_program))
    (D__law_book : Known P w K mg base 1 "_law_book" s__law_book a__law_book fd__law_book ["spot"] (spP K [true] f__law_book))
    (D__law_draw : Known P w K mg base 1 "_law_draw" s__law_draw a__law_draw fd__law_draw ["bag", "many"] (spT K "far" [true] f__law_draw)) :
    Known P w K mg base 5 "_law_thin" s__law_thin f fd ["bag", "many", "size"] (spT K "far" [true, true] f__law_thin) :=
  ⟨m, F, F.binds (ps := ["bag", "many", "size"]) fun _ _ _ _ _ _ us hl => match us, hl with | [_, _, _], _ => rfl,
    fn_tray F sc__law_thin rfl (by decide) fun ta g cdv A outer s H F0 E hg hr => (pss_consD (ps_setD (i := 3) sc__law_thin.nd rfl (Or.inl rfl) (pe_rv (pe_kT D__law_program hg hr (by rfl) (pa_consD (pe_v (pv 0)) (pa_consD (pe_v (pv 1)) (pa_consD (pe_v (pv 2)) (pa_consD (pe_kP D__law_book hg hr (by rfl) (pa_consD pe_cI pa_nilD)) pa_nilD)))))))
  (pss_consD (ps_setD (i := 4) sc__law_thin.nd rfl (Or.inl rfl) (pe_rv (pe_ifD (pt_cmpD op_gtD (pe_v (pv 2)) pe_cI (nomark _)) (pe_kT D__law_draw hg hr (by rfl) (pa_consD (pe_v (pv 0)) (pa_consD (pe_bD (call_minDD rfl) (by rfl) B.b_min bt_min (pa_consD (pe_v (pv 2)) (pa_consD pe_cI pa_nilD))) pa_nilD))) pe_cI)))
  (pss_consD (ps_setD (i := 5) sc__law_thin.nd rfl (Or.inl rfl) (pe_rv (pe_tupD (pa_consD pe_cS (pa_consD (pe_bin op_addD (pe_v (pv 1)) (pe_v (pv 4))) (pa_consD (pe_bin op_addD (pe_v (pv 1)) (pe_bD (call_maxDD rfl) (by rfl) B.b_max bt_max (pa_consD pe_cI (pa_consD (pe_bin op_subD (pe_v (pv 4)) pe_cI) pa_nilD)))) pa_nilD))))))
  (pss_oneD (ps_retD (pe_ifD (pt_cmpD op_gtD (pe_v (pv 2)) pe_cI (nomark _)) (pe_tupD (pa_consD (pe_v (pv 1)) (pa_consD (pe_bin op_addD (pe_slD sl_D (pe_ixD (ix_D (hu_of hr)) (pe_v (pv 3)) pe_cI (by intro _ _; rfl)) po_noneD (po_someD (pe_unD un_negD pe_cI))) (pe_tupD (pa_consD (pe_v (pv 5)) pa_nilD))) pa_nilD))) (pe_v (pv 3))))))))⟩

/-! ### _law_is_chain_kept -/
abbrev s__law_is_chain_kept : Stmt := top 29
def N__law_is_chain_kept : List Str := ["bag", "size", "more", "whole", "rows", "k"]
theorem sc__law_is_chain_kept : FnScope N__law_is_chain_kept ["bag"] (defScope s__law_is_chain_kept) := ⟨rfl, rfl, rfl, by decide +kernel, rfl, by decide +kernel, by decide +kernel⟩
def m__law_is_chain_kept : MS Tr :=
  (mSeq (mPars [1, 2] (mConsV (mRv (mBin addD (mC (.int 1200)) (mCallT [true] f__law_draw (mCons (mV 0) (mCons (mC (.int 801)) mNil))))) (mConsV (mRv (mCallT [true] f__law_pick (mCons (mV 0) (mCons (mKeep (mLst (mCons (mTup (mCons (mC (.str "minus")) (mCons (mC (.int 0)) mNil))) (mCons (mTup (mCons (mC (.str "ones")) mNil)) (mCons (mTup (mCons (mC (.str "plus")) (mCons (mC (.int 0)) (mCons (mC (.int 0)) mNil)))) mNil))))) mNil)))) mNilV)))
  (mSeq (mSet 3 (mRv (mTup (mCons (mC (.int 1)) (mCons (mCall tupleD (mCons (mKeep (mLc (mRange1 (mCons (mV 1) mNil)) (gN 5) mYes (mTup (mCons (mC (.str "not")) (mCons (mV 5) mNil))) [5])) mNil)) mNil)))))
  (mSeq (mIfS (mTest (mBin neD (mCall reprE (mCons (mCallP [true] f_neat (mCons (mV 3) mNil)) mNil)) (mCall reprE (mCons (mV 3) mNil)))) (mRet (mC (.bool false))) mSkip)
  (mSeq (mEnd 4 (mSet 4 (mNew (mLc (mRange1 (mCons (mBin addD (mBin subD (mV 1) (mC (.int 1))) (mBin modD (mV 1) (mC (.int 2)))) mNil)) (gN 5) mYes (mIf (mTest (mBin eqD (mBin modD (mV 5) (mC (.int 2))) (mC (.int 0)))) (mTup (mCons (mC (.str "plus")) (mCons (mC (.int 0)) (mCons (mCall maxD (mCons (mC (.int 0)) (mCons (mBin subD (mV 5) (mC (.int 1))) mNil))) mNil)))) (mV 2)) [5]))))
  (mRet (mBin eqD (mCall reprE (mCons (mCallP [true] f_neat (mCons (mTup (mCons (mC (.int 1)) (mCons (mCall tupleD (mCons (mV 4) mNil)) mNil))) mNil)) mNil)) (mCall reprE (mCons (mTup (mCons (mC (.int 1)) (mCons (mCall tupleD (mCons (mKeep (mLc (mRange1 (mCons (mBin addD (mBin fdivD (mCall lenD (mCons (mV 4) mNil)) (mC (.int 2))) (mC (.int 1))) mNil)) (gN 5) mYes (mTup (mCons (mC (.str "plus")) (mCons (mC (.int 0)) (mCons (mV 5) mNil)))) [5])) mNil)) mNil))) mNil))))))))
def f__law_is_chain_kept : Tr → List PyData → Option (PyData × Tr) := mFunT 6 [] m__law_is_chain_kept
theorem k__law_is_chain_kept {P : Program} {w : World} {K : PySem.W.Frag} {mg : Str → Option Value} {base : Heap} {f : Addr} {fd : FuncData} {a__law_pick : Addr} {fd__law_pick : FuncData} {a__law_draw : Addr} {fd__law_draw : FuncData} {a_neat : Addr} {fd_neat : FuncData} (B : Blt mg) (F : Fun K "_law_is_chain_kept" "_law_is_chain_kept" s__law_is_chain_kept f fd) (m : mg "_law_is_chain_kept" = some (.ref f))
    (D__law_pick : Known P w K mg base 2 "_law_pick" s__law_pick a__law_pick fd__law_pick ["bag", "items"] (spT K "far" [true] f__law_pick))
    (D__law_draw : Known P w K mg base 1 "_law_draw" s__law_draw a__law_draw fd__law_draw ["bag", "many"] (spT K "far" [true] f__law_draw))
    (D_neat : Known P w K mg base 3 "neat" s_neat a_neat fd_neat ["program"] (spP K [true] f_neat)) :
    Known P w K mg base 4 "_law_is_chain_kept" s__law_is_chain_kept f fd ["bag"] (spT K "far" [] f__law_is_chain_kept) :=
  ⟨m, F, F.binds (ps := ["bag"]) fun _ _ _ _ _ _ us hl => match us, hl with | [_], _ => rfl,
    fn_tray F sc__law_is_chain_kept rfl (by decide) fun ta g cdv A outer s H F0 E hg hr => (pss_consD (ps_parsD rfl (pa_consV (pe_rv (pe_bin op_addD pe_cI (pe_kT D__law_draw hg hr (by rfl) (pa_consD (pe_v (pv 0)) (pa_consD pe_cI pa_nilD))))) (pa_consV (pe_rv (pe_kT D__law_pick hg hr (by rfl) (pa_consD (pe_v (pv 0)) (pa_consD (pe_keep (pe_lstD (pa_consD (pe_tupD (pa_consD pe_cS (pa_consD pe_cI pa_nilD))) (pa_consD (pe_tupD (pa_consD pe_cS pa_nilD)) (pa_consD (pe_tupD (pa_consD pe_cS (pa_consD pe_cI (pa_consD pe_cI pa_nilD)))) pa_nilD))))) pa_nilD)))) pa_nilV)) (.cons (pg_name (i := 1) sc__law_is_chain_kept.nd rfl (Or.inl rfl)) (.cons (pg_name (i := 2) sc__law_is_chain_kept.nd rfl (Or.inr rfl)) .nil rfl) rfl) rfl rfl)
  (pss_consD (ps_setD (i := 3) sc__law_is_chain_kept.nd rfl (Or.inl rfl) (pe_rv (pe_tupD (pa_consD pe_cI (pa_consD (pe_tyD call_tupleDD (by rfl) B.b_tuple bt_tuple (pa_consD (pe_keep (pe_lcD (own := [("k", 5)]) rfl sc__law_is_chain_kept.nd (pi_range1D (by rfl) B.b_range (pa_consD (pe_v (pv 1)) pa_nilD)) (blkOk_by (own := [("k", 5)]) (N := N__law_is_chain_kept) (sc := defScope s__law_is_chain_kept) (by decide +kernel)) (fun _ _ _ _ _ => (pg_nm (ks := [5]) (by decide) (pg_name (i := 5) sc__law_is_chain_kept.nd rfl (Or.inl rfl)))) (fun _ _ _ _ _ => pts_nilD) (fun _ _ _ _ _ => (pe_tupD (pa_consD pe_cS (pa_consD (pe_v (pv 5)) pa_nilD)))))) pa_nilD)) pa_nilD)))))
  (pss_consD (ps_ifD (pt_cmpD (op_neDD (hu64 hr)) (pe_bD (call_reprEE hg (hu64 hr)) (by rfl) B.b_repr bt_repr (pa_consD (pe_kP D_neat hg hr (by rfl) (pa_consD (pe_v (pv 3)) pa_nilD)) pa_nilD)) (pe_bD (call_reprEE hg (hu64 hr)) (by rfl) B.b_repr bt_repr (pa_consD (pe_v (pv 3)) pa_nilD)) (nomark _)) (pss_oneD (ps_retD pe_cB)) pss_nilD)
  (pss_consD (ps_end 4 (ps_lcD (i := 4) (own := [("k", 5)]) rfl sc__law_is_chain_kept.nd rfl rfl (sw_true rfl rfl rfl (by decide +kernel)) (pi_range1D (by rfl) B.b_range (pa_consD (pe_bin op_addD (pe_bin op_subD (pe_v (pv 1)) pe_cI) (pe_bin op_modD (pe_v (pv 1)) pe_cI)) pa_nilD)) (blkOk_by (own := [("k", 5)]) (N := N__law_is_chain_kept) (sc := defScope s__law_is_chain_kept) (by decide +kernel)) (fun _ _ _ _ _ => (pg_nm (ks := [5]) (by decide) (pg_name (i := 5) sc__law_is_chain_kept.nd rfl (Or.inl rfl)))) (fun _ _ _ _ _ => pts_nilD) (fun _ _ _ _ _ => (pe_ifD (pt_cmpD (op_eqDD (hu64 hr)) (pe_bin op_modD (pe_v (pv 5)) pe_cI) pe_cI (nomark _)) (pe_tupD (pa_consD pe_cS (pa_consD pe_cI (pa_consD (pe_bD (call_maxDD rfl) (by rfl) B.b_max bt_max (pa_consD pe_cI (pa_consD (pe_bin op_subD (pe_v (pv 5)) pe_cI) pa_nilD))) pa_nilD)))) (pe_v (pv 2))))))
  (pss_oneD (ps_retD (pe_cmpD (op_eqDD (hu64 hr)) (pe_bD (call_reprEE hg (hu64 hr)) (by rfl) B.b_repr bt_repr (pa_consD (pe_kP D_neat hg hr (by rfl) (pa_consD (pe_tupD (pa_consD pe_cI (pa_consD (pe_tyD call_tupleDD (by rfl) B.b_tuple bt_tuple (pa_consD (pe_v (pv 4)) pa_nilD)) pa_nilD))) pa_nilD)) pa_nilD)) (pe_bD (call_reprEE hg (hu64 hr)) (by rfl) B.b_repr bt_repr (pa_consD (pe_tupD (pa_consD pe_cI (pa_consD (pe_tyD call_tupleDD (by rfl) B.b_tuple bt_tuple (pa_consD (pe_keep (pe_lcD (own := [("k", 5)]) rfl sc__law_is_chain_kept.nd (pi_range1D (by rfl) B.b_range (pa_consD (pe_bin op_addD (pe_bin op_fdivD (pe_bD call_lenDD (by rfl) B.b_len bt_len (pa_consD (pe_v (pv 4)) pa_nilD)) pe_cI) pe_cI) pa_nilD)) (blkOk_by (own := [("k", 5)]) (N := N__law_is_chain_kept) (sc := defScope s__law_is_chain_kept) (by decide +kernel)) (fun _ _ _ _ _ => (pg_nm (ks := [5]) (by decide) (pg_name (i := 5) sc__law_is_chain_kept.nd rfl (Or.inl rfl)))) (fun _ _ _ _ _ => pts_nilD) (fun _ _ _ _ _ => (pe_tupD (pa_consD pe_cS (pa_consD pe_cI (pa_consD (pe_v (pv 5)) pa_nilD))))))) pa_nilD)) pa_nilD))) pa_nilD)) (nomark _))))))))⟩

/-! ### law -/
abbrev s_law : Stmt := top 30
def N_law : List Str := ["script", "bag", "turn", "many", "program", "kept", "due", "told", "width", "words"]
theorem sc_law : FnScope N_law ["script"] (defScope s_law) := ⟨rfl, rfl, rfl, by decide +kernel, rfl, by decide +kernel, by decide +kernel⟩
def m_law : MS Tr :=
  (mSeq (mIfS (mTest (mBin eqD (mCallT [true] f__law_draw (mCons (mV 1) (mCons (mC (.int 5)) mNil))) (mC (.int 0)))) (mRet (mCallT [] f__law_is_chain_kept (mCons (mV 1) mNil))) mSkip)
  (mSeq (mFor (mRange1 (mCons (mC (.int 7)) mNil)) (gN 2) (mSeq (mSet 3 (mRv (mCallT [true] f__law_draw (mCons (mV 1) (mCons (mC (.int 3)) mNil)))))
  (mSeq (mSet 4 (mRv (mCallT [true, true, true] f__law_program (mCons (mV 1) (mCons (mV 3) (mCons (mBin addD (mC (.int 1)) (mCallT [true] f__law_draw (mCons (mV 1) (mCons (mC (.int 20)) mNil)))) (mCons (mCallT [] f__law_any_words (mCons (mV 1) mNil)) mNil)))))))
  (mSeq (mIfS (mTest (mBin gtD (mV 2) (mC (.int 4)))) (mSet 4 (mRv (mCallT [true, true] f__law_thin (mCons (mV 1) (mCons (mV 3) (mCons (mCallT [true] f__law_pick (mCons (mV 1) (mCons (mKeep (mLst (mCons (mC (.int 7)) (mCons (mC (.int 12)) (mCons (mC (.int 30)) (mCons (mC (.int 100)) mNil)))))) mNil))) mNil)))))) mSkip)
  (mSeq (mPar 5 6 (mConsV (mRv (mCall reprE (mCons (mV 4) mNil))) (mConsV (mRv (mCallP [true] f__law_neat (mCons (mV 4) mNil))) mNilV)))
  (mSeq (mSet 7 (mRv (mIf (mTest (mBin eqD (mV 2) (mC (.int 2)))) (mCallP [true] f_neat (mPick [0] (mCons (mV 4) mNil))) (mCallP [true] f_neat (mCons (mV 4) mNil)))))
  (mSeq (mIfS (mOr (mTest (mBin neD (mCall reprE (mCons (mV 7) mNil)) (mCall reprE (mCons (mV 6) mNil)))) (mOr (mTest (mBin neD (mCall reprE (mCons (mCallP [true] f_neat (mCons (mV 7) mNil)) mNil)) (mCall reprE (mCons (mV 6) mNil)))) (mAnd (mTest (mBin eqD (mV 2) (mC (.int 1)))) (mTest (mBin neD (mCall reprE (mCons (mCallP [true] f_neat (mCons (mV 4) mNil)) mNil)) (mCall reprE (mCons (mV 6) mNil))))))) (mRet (mC (.bool false))) mSkip)
  (mSeq (mSet 8 (mRv (mBin addD (mC (.int 1)) (mCallT [true] f__law_draw (mCons (mV 1) (mCons (mC (.int 12)) mNil))))))
  (mSeq (mSet 9 (mRv (mCallT [true, true] f__law_handed (mCons (mV 1) (mCons (mV 3) (mCons (mV 8) mNil))))))
  (mIfS (mOr (mTest (mBin neD (mCall reprE (mCons (mCallP [true, true, true] f_result (mCons (mV 7) (mCons (mV 8) (mCons (mV 9) mNil)))) mNil)) (mCall reprE (mCons (mCallP [true, true, true] f_result (mCons (mV 4) (mCons (mV 8) (mCons (mV 9) mNil)))) mNil)))) (mTest (mBin neD (mCall reprE (mCons (mV 4) mNil)) (mV 5)))) (mRet (mC (.bool false))) mSkip))))))))))
  (mRet (mC (.bool true)))))
theorem kw_neat_program (kV doc pm : Value) (an : Option Addr) (cdv ct : Value) (ws : List Value) (hl : (pick [0] ws).length = ["program"].length) :
    bindArgs (PySem.W.fnOf "neat" "neat" (defArgs s_neat) (defBody s_neat) (defScope s_neat) .none kV doc pm an cdv ct) ⟨[], (["program"] : List Str).zip ws⟩ = pure ((["program"] : List Str).zip (pick [0] ws)) := by
  rcases ws with _ | ⟨a0, rest⟩
  · exact absurd hl (by simp [pick])
  · rfl
theorem k_law {P : Program} {w : World} {K : PySem.W.Frag} {mg : Str → Option Value} {base : Heap} {f : Addr} {fd : FuncData} {a__law_bag : Addr} {fd__law_bag : FuncData} {a__law_draw : Addr} {fd__law_draw : FuncData} {a__law_is_chain_kept : Addr} {fd__law_is_chain_kept : FuncData} {a__law_program : Addr} {fd__law_program : FuncData} {a__law_any_words : Addr} {fd__law_any_words : FuncData} {a__law_thin : Addr} {fd__law_thin : FuncData} {a__law_pick : Addr} {fd__law_pick : FuncData} {a__law_neat : Addr} {fd__law_neat : FuncData} {a_neat : Addr} {fd_neat : FuncData} {a__law_handed : Addr} {fd__law_handed : FuncData} {a_result : Addr} {fd_result : FuncData} (B : Blt mg) (F : Fun K "law" "law" s_law f fd) (m : mg "law" = some (.ref f))
    (D__law_bag : Known P w K mg base 1 "_law_bag" s__law_bag a__law_bag fd__law_bag ["script"] (spS K f__law_bag))
    (D__law_draw : Known P w K mg base 1 "_law_draw" s__law_draw a__law_draw fd__law_draw ["bag", "many"] (spT K "far" [true] f__law_draw))
    (D__law_is_chain_kept : Known P w K mg base 4 "_law_is_chain_kept" s__law_is_chain_kept a__law_is_chain_kept fd__law_is_chain_kept ["bag"] (spT K "far" [] f__law_is_chain_kept))
    (D__law_program : Known P w K mg base 4 "_law_program" s__law_program a__law_program fd__law_program ["bag", "many", "size", "words"] (spT K "far" [true, true, true] f__law_program))
    (D__law_any_words : Known P w K mg base 2 "_law_any_words" s__law_any_words a__law_any_words fd__law_any_words ["bag"] (spT K "far" [] f__law_any_words))
    (D__law_thin : Known P w K mg base 5 "_law_thin" s__law_thin a__law_thin fd__law_thin ["bag", "many", "size"] (spT K "far" [true, true] f__law_thin))
    (D__law_pick : Known P w K mg base 2 "_law_pick" s__law_pick a__law_pick fd__law_pick ["bag", "items"] (spT K "far" [true] f__law_pick))
    (D__law_neat : Known P w K mg base 2 "_law_neat" s__law_neat a__law_neat fd__law_neat ["program"] (spP K [true] f__law_neat))
    (D_neat : Known P w K mg base 3 "neat" s_neat a_neat fd_neat ["program"] (spP K [true] f_neat))
    (D__law_handed : Known P w K mg base 3 "_law_handed" s__law_handed a__law_handed fd__law_handed ["bag", "many", "width"] (spT K "far" [true, true] f__law_handed))
    (D_result : Known P w K mg base 5 "result" s_result a_result fd_result ["program", "width", "words"] (spP K [true, true, true] f_result))
    (hlaw : ∀ ns : List Int, ns.length ≤ 63 → (∀ z ∈ ns, Builtin.Int.intBits z ≤ 1048576) → ∃ t0, f__law_bag ns = some (trD "far" t0) ∧ ∃ t', m_law (entryL 10 1) t0 = some (.rt (.bool true), t')) :
    Known P w K mg base 6 "law" s_law f fd ["script"] (spLaw K 63) :=
  ⟨m, F, F.binds (ps := ["script"]) fun _ _ _ _ _ _ us hl => match us, hl with | [_], _ => rfl,
    fn_law (i := 1) F sc_law rfl (by decide) (by decide) (fun cdv A outer s H E hg hr => ps_make D__law_bag hg hr (by rfl) (pv 0) sc_law.nd rfl (Or.inl rfl)) (fun ta g cdv A outer s H H0 F0 E hg hr => (pss_consD (ps_ifD (pt_cmpD (op_eqDD (hu64 hr)) (pe_kT D__law_draw hg hr (by rfl) (pa_consD (pe_v (pv 1)) (pa_consD pe_cI pa_nilD))) pe_cI (nomark _)) (pss_oneD (ps_retD (pe_kT D__law_is_chain_kept hg hr (by rfl) (pa_consD (pe_v (pv 1)) pa_nilD)))) pss_nilD)
  (pss_consD (ps_forD PassesOwn.never rfl (pi_range1D (by rfl) B.b_range (pa_consD pe_cI pa_nilD)) (pg_nm (ks := [2]) (by decide) (pg_name (i := 2) sc_law.nd rfl (Or.inl rfl))) (pss_consD (ps_setD (i := 3) sc_law.nd rfl (Or.inl rfl) (pe_rv (pe_kT D__law_draw hg hr (by rfl) (pa_consD (pe_v (pv 1)) (pa_consD pe_cI pa_nilD)))))
  (pss_consD (ps_setD (i := 4) sc_law.nd rfl (Or.inl rfl) (pe_rv (pe_kT D__law_program hg hr (by rfl) (pa_consD (pe_v (pv 1)) (pa_consD (pe_v (pv 3)) (pa_consD (pe_bin op_addD pe_cI (pe_kT D__law_draw hg hr (by rfl) (pa_consD (pe_v (pv 1)) (pa_consD pe_cI pa_nilD)))) (pa_consD (pe_kT D__law_any_words hg hr (by rfl) (pa_consD (pe_v (pv 1)) pa_nilD)) pa_nilD)))))))
  (pss_consD (ps_ifD (pt_cmpD op_gtD (pe_v (pv 2)) pe_cI (nomark _)) (pss_oneD (ps_setD (i := 4) sc_law.nd rfl (Or.inl rfl) (pe_rv (pe_kT D__law_thin hg hr (by rfl) (pa_consD (pe_v (pv 1)) (pa_consD (pe_v (pv 3)) (pa_consD (pe_kT D__law_pick hg hr (by rfl) (pa_consD (pe_v (pv 1)) (pa_consD (pe_keep (pe_lstD (pa_consD pe_cI (pa_consD pe_cI (pa_consD pe_cI (pa_consD pe_cI pa_nilD)))))) pa_nilD))) pa_nilD))))))) pss_nilD)
  (pss_consD (ps_parD (i := 5) (j := 6) rfl sc_law.nd rfl rfl (by decide) rfl rfl (pa_consV (pe_rv (pe_bD (call_reprEE hg (hu64 hr)) (by rfl) B.b_repr bt_repr (pa_consD (pe_v (pv 4)) pa_nilD))) (pa_consV (pe_rv (pe_kP D__law_neat hg hr (by rfl) (pa_consD (pe_v (pv 4)) pa_nilD))) pa_nilV)) rfl)
  (pss_consD (ps_setD (i := 7) sc_law.nd rfl (Or.inl rfl) (pe_rv (pe_ifD (pt_cmpD (op_eqDD (hu64 hr)) (pe_v (pv 2)) pe_cI (nomark _)) (pe_kPK (is := [0]) D_neat hg hr (by rfl) kw_neat_program (pk_consD (pe_v (pv 4)) pk_nilD)) (pe_kP D_neat hg hr (by rfl) (pa_consD (pe_v (pv 4)) pa_nilD)))))
  (pss_consD (ps_ifD ((pw_orD (pt_cmpD (op_neDD (hu64 hr)) (pe_bD (call_reprEE hg (hu64 hr)) (by rfl) B.b_repr bt_repr (pa_consD (pe_v (pv 7)) pa_nilD)) (pe_bD (call_reprEE hg (hu64 hr)) (by rfl) B.b_repr bt_repr (pa_consD (pe_v (pv 6)) pa_nilD)) (nomark _)) (pw_orD (pt_cmpD (op_neDD (hu64 hr)) (pe_bD (call_reprEE hg (hu64 hr)) (by rfl) B.b_repr bt_repr (pa_consD (pe_kP D_neat hg hr (by rfl) (pa_consD (pe_v (pv 7)) pa_nilD)) pa_nilD)) (pe_bD (call_reprEE hg (hu64 hr)) (by rfl) B.b_repr bt_repr (pa_consD (pe_v (pv 6)) pa_nilD)) (nomark _)) (pw_or1 ((pw_andD (pt_cmpD (op_eqDD (hu64 hr)) (pe_v (pv 2)) pe_cI (nomark _)) (pw_and1 (pt_cmpD (op_neDD (hu64 hr)) (pe_bD (call_reprEE hg (hu64 hr)) (by rfl) B.b_repr bt_repr (pa_consD (pe_kP D_neat hg hr (by rfl) (pa_consD (pe_v (pv 4)) pa_nilD)) pa_nilD)) (pe_bD (call_reprEE hg (hu64 hr)) (by rfl) B.b_repr bt_repr (pa_consD (pe_v (pv 6)) pa_nilD)) (nomark _))))).pt)))).pt (pss_oneD (ps_retD pe_cB)) pss_nilD)
  (pss_consD (ps_setD (i := 8) sc_law.nd rfl (Or.inl rfl) (pe_rv (pe_bin op_addD pe_cI (pe_kT D__law_draw hg hr (by rfl) (pa_consD (pe_v (pv 1)) (pa_consD pe_cI pa_nilD))))))
  (pss_consD (ps_setD (i := 9) sc_law.nd rfl (Or.inl rfl) (pe_rv (pe_kT D__law_handed hg hr (by rfl) (pa_consD (pe_v (pv 1)) (pa_consD (pe_v (pv 3)) (pa_consD (pe_v (pv 8)) pa_nilD))))))
  (pss_oneD (ps_ifD ((pw_orD (pt_cmpD (op_neDD (hu64 hr)) (pe_bD (call_reprEE hg (hu64 hr)) (by rfl) B.b_repr bt_repr (pa_consD (pe_kP D_result hg hr (by rfl) (pa_consD (pe_v (pv 7)) (pa_consD (pe_v (pv 8)) (pa_consD (pe_v (pv 9)) pa_nilD)))) pa_nilD)) (pe_bD (call_reprEE hg (hu64 hr)) (by rfl) B.b_repr bt_repr (pa_consD (pe_kP D_result hg hr (by rfl) (pa_consD (pe_v (pv 4)) (pa_consD (pe_v (pv 8)) (pa_consD (pe_v (pv 9)) pa_nilD)))) pa_nilD)) (nomark _)) (pw_or1 (pt_cmpD (op_neDD (hu64 hr)) (pe_bD (call_reprEE hg (hu64 hr)) (by rfl) B.b_repr bt_repr (pa_consD (pe_v (pv 4)) pa_nilD)) (pe_v (pv 5)) (nomark _))))).pt (pss_oneD (ps_retD pe_cB)) pss_nilD)))))))))))
  (pss_oneD (ps_retD pe_cB))))) hlaw⟩

/-! ### the top -/
theorem all_mk {l : PySem.W.OpenLaw} {w : World} {K : PySem.W.Frag} {h : Heap} {mg : Str → Option Value} {fa f0 f1 f2 f3 f4 f5 f6 f7 f8 f9 f10 f11 f12 f13 f14 f15 f16 f17 f18 f19 f20 f21 f22 f23 f24 f25 f26 : Addr} {od0 an0 od1 an1 od2 an2 od3 an3 od4 an4 od5 an5 od6 an6 od7 an7 od8 an8 od9 an9 od10 an10 od11 an11 od12 an12 od13 an13 od14 an14 od15 an15 od16 an16 od17 an17 od18 an18 od19 an19 od20 an20 od21 an21 od22 an22 od23 an23 od24 an24 od25 an25 od26 an26 : Option Addr} {sl0 sl1 sl2 sl3 sl4 sl5 sl6 sl7 sl8 sl9 sl10 sl11 sl12 sl13 sl14 sl15 sl16 sl17 sl18 sl19 sl20 sl21 sl22 sl23 sl24 sl25 sl26 : Array (Option Value)} {oc0 kV0 dc0 pm0 cd0 ct0 oc1 kV1 dc1 pm1 cd1 ct1 oc2 kV2 dc2 pm2 cd2 ct2 oc3 kV3 dc3 pm3 cd3 ct3 oc4 kV4 dc4 pm4 cd4 ct4 oc5 kV5 dc5 pm5 cd5 ct5 oc6 kV6 dc6 pm6 cd6 ct6 oc7 kV7 dc7 pm7 cd7 ct7 oc8 kV8 dc8 pm8 cd8 ct8 oc9 kV9 dc9 pm9 cd9 ct9 oc10 kV10 dc10 pm10 cd10 ct10 oc11 kV11 dc11 pm11 cd11 ct11 oc12 kV12 dc12 pm12 cd12 ct12 oc13 kV13 dc13 pm13 cd13 ct13 oc14 kV14 dc14 pm14 cd14 ct14 oc15 kV15 dc15 pm15 cd15 ct15 oc16 kV16 dc16 pm16 cd16 ct16 oc17 kV17 dc17 pm17 cd17 ct17 oc18 kV18 dc18 pm18 cd18 ct18 oc19 kV19 dc19 pm19 cd19 ct19 oc20 kV20 dc20 pm20 cd20 ct20 oc21 kV21 dc21 pm21 cd21 ct21 oc22 kV22 dc22 pm22 cd22 ct22 oc23 kV23 dc23 pm23 cd23 ct23 oc24 kV24 dc24 pm24 cd24 ct24 oc25 kV25 dc25 pm25 cd25 ct25 oc26 kV26 dc26 pm26 cd26 ct26 : Value} (X : K.In h) (G : h.Ns mainGlobals mg) (hfa : mg "law" = some (.ref fa))
    (a0 : PySem.W.nsIn K mainGlobals "operands_of" = some (some (.ref f0)))
    (l0 : K.lookup f0 = some ⟨oc0, od0, .func (PySem.W.fnOf "operands_of" "operands_of" (defArgs s_operands_of) (defBody s_operands_of) (defScope s_operands_of) .none kV0 dc0 pm0 an0 cd0 ct0), sl0⟩)
    (c0 : PySem.W.codeIn K cd0 "operands_of" = true) (k0 : PySem.W.keepIn K (.ref f0) = true)
    (a1 : PySem.W.nsIn K mainGlobals "renumbered" = some (some (.ref f1)))
    (l1 : K.lookup f1 = some ⟨oc1, od1, .func (PySem.W.fnOf "renumbered" "renumbered" (defArgs s_renumbered) (defBody s_renumbered) (defScope s_renumbered) .none kV1 dc1 pm1 an1 cd1 ct1), sl1⟩)
    (c1 : PySem.W.codeIn K cd1 "renumbered" = true) (k1 : PySem.W.keepIn K (.ref f1) = true)
    (a2 : PySem.W.nsIn K mainGlobals "_used" = some (some (.ref f2)))
    (l2 : K.lookup f2 = some ⟨oc2, od2, .func (PySem.W.fnOf "_used" "_used" (defArgs s__used) (defBody s__used) (defScope s__used) .none kV2 dc2 pm2 an2 cd2 ct2), sl2⟩)
    (c2 : PySem.W.codeIn K cd2 "_used" = true) (k2 : PySem.W.keepIn K (.ref f2) = true)
    (a3 : PySem.W.nsIn K mainGlobals "neat" = some (some (.ref f3)))
    (l3 : K.lookup f3 = some ⟨oc3, od3, .func (PySem.W.fnOf "neat" "neat" (defArgs s_neat) (defBody s_neat) (defScope s_neat) .none kV3 dc3 pm3 an3 cd3 ct3), sl3⟩)
    (c3 : PySem.W.codeIn K cd3 "neat" = true) (k3 : PySem.W.keepIn K (.ref f3) = true)
    (a4 : PySem.W.nsIn K mainGlobals "_masked" = some (some (.ref f4)))
    (l4 : K.lookup f4 = some ⟨oc4, od4, .func (PySem.W.fnOf "_masked" "_masked" (defArgs s__masked) (defBody s__masked) (defScope s__masked) .none kV4 dc4 pm4 an4 cd4 ct4), sl4⟩)
    (c4 : PySem.W.codeIn K cd4 "_masked" = true) (k4 : PySem.W.keepIn K (.ref f4) = true)
    (a5 : PySem.W.nsIn K mainGlobals "_prefixed" = some (some (.ref f5)))
    (l5 : K.lookup f5 = some ⟨oc5, od5, .func (PySem.W.fnOf "_prefixed" "_prefixed" (defArgs s__prefixed) (defBody s__prefixed) (defScope s__prefixed) .none kV5 dc5 pm5 an5 cd5 ct5), sl5⟩)
    (c5 : PySem.W.codeIn K cd5 "_prefixed" = true) (k5 : PySem.W.keepIn K (.ref f5) = true)
    (a6 : PySem.W.nsIn K mainGlobals "_of_one" = some (some (.ref f6)))
    (l6 : K.lookup f6 = some ⟨oc6, od6, .func (PySem.W.fnOf "_of_one" "_of_one" (defArgs s__of_one) (defBody s__of_one) (defScope s__of_one) .none kV6 dc6 pm6 an6 cd6 ct6), sl6⟩)
    (c6 : PySem.W.codeIn K cd6 "_of_one" = true) (k6 : PySem.W.keepIn K (.ref f6) = true)
    (a7 : PySem.W.nsIn K mainGlobals "_of_two" = some (some (.ref f7)))
    (l7 : K.lookup f7 = some ⟨oc7, od7, .func (PySem.W.fnOf "_of_two" "_of_two" (defArgs s__of_two) (defBody s__of_two) (defScope s__of_two) .none kV7 dc7 pm7 an7 cd7 ct7), sl7⟩)
    (c7 : PySem.W.codeIn K cd7 "_of_two" = true) (k7 : PySem.W.keepIn K (.ref f7) = true)
    (a8 : PySem.W.nsIn K mainGlobals "_whole" = some (some (.ref f8)))
    (l8 : K.lookup f8 = some ⟨oc8, od8, .func (PySem.W.fnOf "_whole" "_whole" (defArgs s__whole) (defBody s__whole) (defScope s__whole) .none kV8 dc8 pm8 an8 cd8 ct8), sl8⟩)
    (c8 : PySem.W.codeIn K cd8 "_whole" = true) (k8 : PySem.W.keepIn K (.ref f8) = true)
    (a9 : PySem.W.nsIn K mainGlobals "values" = some (some (.ref f9)))
    (l9 : K.lookup f9 = some ⟨oc9, od9, .func (PySem.W.fnOf "values" "values" (defArgs s_values) (defBody s_values) (defScope s_values) .none kV9 dc9 pm9 an9 cd9 ct9), sl9⟩)
    (c9 : PySem.W.codeIn K cd9 "values" = true) (k9 : PySem.W.keepIn K (.ref f9) = true)
    (a10 : PySem.W.nsIn K mainGlobals "result" = some (some (.ref f10)))
    (l10 : K.lookup f10 = some ⟨oc10, od10, .func (PySem.W.fnOf "result" "result" (defArgs s_result) (defBody s_result) (defScope s_result) .none kV10 dc10 pm10 an10 cd10 ct10), sl10⟩)
    (c10 : PySem.W.codeIn K cd10 "result" = true) (k10 : PySem.W.keepIn K (.ref f10) = true)
    (a11 : PySem.W.nsIn K mainGlobals "_law_bag" = some (some (.ref f11)))
    (l11 : K.lookup f11 = some ⟨oc11, od11, .func (PySem.W.fnOf "_law_bag" "_law_bag" (defArgs s__law_bag) (defBody s__law_bag) (defScope s__law_bag) .none kV11 dc11 pm11 an11 cd11 ct11), sl11⟩)
    (c11 : PySem.W.codeIn K cd11 "_law_bag" = true) (k11 : PySem.W.keepIn K (.ref f11) = true)
    (a12 : PySem.W.nsIn K mainGlobals "_law_draw" = some (some (.ref f12)))
    (l12 : K.lookup f12 = some ⟨oc12, od12, .func (PySem.W.fnOf "_law_draw" "_law_draw" (defArgs s__law_draw) (defBody s__law_draw) (defScope s__law_draw) .none kV12 dc12 pm12 an12 cd12 ct12), sl12⟩)
    (c12 : PySem.W.codeIn K cd12 "_law_draw" = true) (k12 : PySem.W.keepIn K (.ref f12) = true)
    (a13 : PySem.W.nsIn K mainGlobals "_law_pick" = some (some (.ref f13)))
    (l13 : K.lookup f13 = some ⟨oc13, od13, .func (PySem.W.fnOf "_law_pick" "_law_pick" (defArgs s__law_pick) (defBody s__law_pick) (defScope s__law_pick) .none kV13 dc13 pm13 an13 cd13 ct13), sl13⟩)
    (c13 : PySem.W.codeIn K cd13 "_law_pick" = true) (k13 : PySem.W.keepIn K (.ref f13) = true)
    (a14 : PySem.W.nsIn K mainGlobals "_law_power" = some (some (.ref f14)))
    (l14 : K.lookup f14 = some ⟨oc14, od14, .func (PySem.W.fnOf "_law_power" "_law_power" (defArgs s__law_power) (defBody s__law_power) (defScope s__law_power) .none kV14 dc14 pm14 an14 cd14 ct14), sl14⟩)
    (c14 : PySem.W.codeIn K cd14 "_law_power" = true) (k14 : PySem.W.keepIn K (.ref f14) = true)
    (a15 : PySem.W.nsIn K mainGlobals "_law_arity" = some (some (.ref f15)))
    (l15 : K.lookup f15 = some ⟨oc15, od15, .func (PySem.W.fnOf "_law_arity" "_law_arity" (defArgs s__law_arity) (defBody s__law_arity) (defScope s__law_arity) .none kV15 dc15 pm15 an15 cd15 ct15), sl15⟩)
    (c15 : PySem.W.codeIn K cd15 "_law_arity" = true) (k15 : PySem.W.keepIn K (.ref f15) = true)
    (a16 : PySem.W.nsIn K mainGlobals "_law_book" = some (some (.ref f16)))
    (l16 : K.lookup f16 = some ⟨oc16, od16, .func (PySem.W.fnOf "_law_book" "_law_book" (defArgs s__law_book) (defBody s__law_book) (defScope s__law_book) .none kV16 dc16 pm16 an16 cd16 ct16), sl16⟩)
    (c16 : PySem.W.codeIn K cd16 "_law_book" = true) (k16 : PySem.W.keepIn K (.ref f16) = true)
    (a17 : PySem.W.nsIn K mainGlobals "_law_operand" = some (some (.ref f17)))
    (l17 : K.lookup f17 = some ⟨oc17, od17, .func (PySem.W.fnOf "_law_operand" "_law_operand" (defArgs s__law_operand) (defBody s__law_operand) (defScope s__law_operand) .none kV17 dc17 pm17 an17 cd17 ct17), sl17⟩)
    (c17 : PySem.W.codeIn K cd17 "_law_operand" = true) (k17 : PySem.W.keepIn K (.ref f17) = true)
    (a18 : PySem.W.nsIn K mainGlobals "_law_row" = some (some (.ref f18)))
    (l18 : K.lookup f18 = some ⟨oc18, od18, .func (PySem.W.fnOf "_law_row" "_law_row" (defArgs s__law_row) (defBody s__law_row) (defScope s__law_row) .none kV18 dc18 pm18 an18 cd18 ct18), sl18⟩)
    (c18 : PySem.W.codeIn K cd18 "_law_row" = true) (k18 : PySem.W.keepIn K (.ref f18) = true)
    (a19 : PySem.W.nsIn K mainGlobals "_law_program" = some (some (.ref f19)))
    (l19 : K.lookup f19 = some ⟨oc19, od19, .func (PySem.W.fnOf "_law_program" "_law_program" (defArgs s__law_program) (defBody s__law_program) (defScope s__law_program) .none kV19 dc19 pm19 an19 cd19 ct19), sl19⟩)
    (c19 : PySem.W.codeIn K cd19 "_law_program" = true) (k19 : PySem.W.keepIn K (.ref f19) = true)
    (a20 : PySem.W.nsIn K mainGlobals "_law_any_words" = some (some (.ref f20)))
    (l20 : K.lookup f20 = some ⟨oc20, od20, .func (PySem.W.fnOf "_law_any_words" "_law_any_words" (defArgs s__law_any_words) (defBody s__law_any_words) (defScope s__law_any_words) .none kV20 dc20 pm20 an20 cd20 ct20), sl20⟩)
    (c20 : PySem.W.codeIn K cd20 "_law_any_words" = true) (k20 : PySem.W.keepIn K (.ref f20) = true)
    (a21 : PySem.W.nsIn K mainGlobals "_law_handed" = some (some (.ref f21)))
    (l21 : K.lookup f21 = some ⟨oc21, od21, .func (PySem.W.fnOf "_law_handed" "_law_handed" (defArgs s__law_handed) (defBody s__law_handed) (defScope s__law_handed) .none kV21 dc21 pm21 an21 cd21 ct21), sl21⟩)
    (c21 : PySem.W.codeIn K cd21 "_law_handed" = true) (k21 : PySem.W.keepIn K (.ref f21) = true)
    (a22 : PySem.W.nsIn K mainGlobals "_law_used" = some (some (.ref f22)))
    (l22 : K.lookup f22 = some ⟨oc22, od22, .func (PySem.W.fnOf "_law_used" "_law_used" (defArgs s__law_used) (defBody s__law_used) (defScope s__law_used) .none kV22 dc22 pm22 an22 cd22 ct22), sl22⟩)
    (c22 : PySem.W.codeIn K cd22 "_law_used" = true) (k22 : PySem.W.keepIn K (.ref f22) = true)
    (a23 : PySem.W.nsIn K mainGlobals "_law_neat" = some (some (.ref f23)))
    (l23 : K.lookup f23 = some ⟨oc23, od23, .func (PySem.W.fnOf "_law_neat" "_law_neat" (defArgs s__law_neat) (defBody s__law_neat) (defScope s__law_neat) .none kV23 dc23 pm23 an23 cd23 ct23), sl23⟩)
    (c23 : PySem.W.codeIn K cd23 "_law_neat" = true) (k23 : PySem.W.keepIn K (.ref f23) = true)
    (a24 : PySem.W.nsIn K mainGlobals "_law_thin" = some (some (.ref f24)))
    (l24 : K.lookup f24 = some ⟨oc24, od24, .func (PySem.W.fnOf "_law_thin" "_law_thin" (defArgs s__law_thin) (defBody s__law_thin) (defScope s__law_thin) .none kV24 dc24 pm24 an24 cd24 ct24), sl24⟩)
    (c24 : PySem.W.codeIn K cd24 "_law_thin" = true) (k24 : PySem.W.keepIn K (.ref f24) = true)
    (a25 : PySem.W.nsIn K mainGlobals "_law_is_chain_kept" = some (some (.ref f25)))
    (l25 : K.lookup f25 = some ⟨oc25, od25, .func (PySem.W.fnOf "_law_is_chain_kept" "_law_is_chain_kept" (defArgs s__law_is_chain_kept) (defBody s__law_is_chain_kept) (defScope s__law_is_chain_kept) .none kV25 dc25 pm25 an25 cd25 ct25), sl25⟩)
    (c25 : PySem.W.codeIn K cd25 "_law_is_chain_kept" = true) (k25 : PySem.W.keepIn K (.ref f25) = true)
    (a26 : PySem.W.nsIn K mainGlobals "law" = some (some (.ref f26)))
    (l26 : K.lookup f26 = some ⟨oc26, od26, .func (PySem.W.fnOf "law" "law" (defArgs s_law) (defBody s_law) (defScope s_law) .none kV26 dc26 pm26 an26 cd26 ct26), sl26⟩)
    (c26 : PySem.W.codeIn K cd26 "law" = true) (k26 : PySem.W.keepIn K (.ref f26) = true)
    (z_tuple : PySem.W.nsIn K mainGlobals "tuple" = some none)
    (z_len : PySem.W.nsIn K mainGlobals "len" = some none)
    (z_reversed : PySem.W.nsIn K mainGlobals "reversed" = some none)
    (z_range : PySem.W.nsIn K mainGlobals "range" = some none)
    (z_list : PySem.W.nsIn K mainGlobals "list" = some none)
    (z_sum : PySem.W.nsIn K mainGlobals "sum" = some none)
    (z_abs : PySem.W.nsIn K mainGlobals "abs" = some none)
    (z_int : PySem.W.nsIn K mainGlobals "int" = some none)
    (z_isinstance : PySem.W.nsIn K mainGlobals "isinstance" = some none)
    (z_str : PySem.W.nsIn K mainGlobals "str" = some none)
    (z_min : PySem.W.nsIn K mainGlobals "min" = some none)
    (z_sorted : PySem.W.nsIn K mainGlobals "sorted" = some none)
    (z_enumerate : PySem.W.nsIn K mainGlobals "enumerate" = some none)
    (z_dict : PySem.W.nsIn K mainGlobals "dict" = some none)
    (z_max : PySem.W.nsIn K mainGlobals "max" = some none)
    (z_repr : PySem.W.nsIn K mainGlobals "repr" = some none)
    (hlaw : ∀ ns : List Int, ns.length ≤ 63 → (∀ z ∈ ns, Builtin.Int.intBits z ≤ 1048576) → ∃ t0, f__law_bag ns = some (trD "far" t0) ∧ ∃ t', m_law (entryL 10 1) t0 = some (.rt (.bool true), t')) :
    ∃ fd : FuncData, (∀ (s : Shared) (v : Value), BindsTo s fd ⟨[v], []⟩ [("script", v)]) ∧ ∀ base : Heap, K.In base → base.Ns mainGlobals mg → FnG l.prog w K mg base CX0 6 fa fd ["script"] (spLaw K 63) := by
  have e := hfa.symm.trans (PySem.W.mg_of X G a26)
  cases e
  have B : Blt mg := ⟨PySem.W.mg_none_of X G z_tuple, PySem.W.mg_none_of X G z_len, PySem.W.mg_none_of X G z_reversed, PySem.W.mg_none_of X G z_range, PySem.W.mg_none_of X G z_list, PySem.W.mg_none_of X G z_sum, PySem.W.mg_none_of X G z_abs, PySem.W.mg_none_of X G z_int, PySem.W.mg_none_of X G z_isinstance, PySem.W.mg_none_of X G z_str, PySem.W.mg_none_of X G z_min, PySem.W.mg_none_of X G z_sorted, PySem.W.mg_none_of X G z_enumerate, PySem.W.mg_none_of X G z_dict, PySem.W.mg_none_of X G z_max, PySem.W.mg_none_of X G z_repr⟩
  have F0 := fun_mk (st := s_operands_of) l0 c0 k0
  have F1 := fun_mk (st := s_renumbered) l1 c1 k1
  have F2 := fun_mk (st := s__used) l2 c2 k2
  have F3 := fun_mk (st := s_neat) l3 c3 k3
  have F4 := fun_mk (st := s__masked) l4 c4 k4
  have F5 := fun_mk (st := s__prefixed) l5 c5 k5
  have F6 := fun_mk (st := s__of_one) l6 c6 k6
  have F7 := fun_mk (st := s__of_two) l7 c7 k7
  have F8 := fun_mk (st := s__whole) l8 c8 k8
  have F9 := fun_mk (st := s_values) l9 c9 k9
  have F10 := fun_mk (st := s_result) l10 c10 k10
  have F11 := fun_mk (st := s__law_bag) l11 c11 k11
  have F12 := fun_mk (st := s__law_draw) l12 c12 k12
  have F13 := fun_mk (st := s__law_pick) l13 c13 k13
  have F14 := fun_mk (st := s__law_power) l14 c14 k14
  have F15 := fun_mk (st := s__law_arity) l15 c15 k15
  have F16 := fun_mk (st := s__law_book) l16 c16 k16
  have F17 := fun_mk (st := s__law_operand) l17 c17 k17
  have F18 := fun_mk (st := s__law_row) l18 c18 k18
  have F19 := fun_mk (st := s__law_program) l19 c19 k19
  have F20 := fun_mk (st := s__law_any_words) l20 c20 k20
  have F21 := fun_mk (st := s__law_handed) l21 c21 k21
  have F22 := fun_mk (st := s__law_used) l22 c22 k22
  have F23 := fun_mk (st := s__law_neat) l23 c23 k23
  have F24 := fun_mk (st := s__law_thin) l24 c24 k24
  have F25 := fun_mk (st := s__law_is_chain_kept) l25 c25 k25
  have F26 := fun_mk (st := s_law) l26 c26 k26
  refine ⟨PySem.W.fnOf "law" "law" (defArgs s_law) (defBody s_law) (defScope s_law) .none kV26 dc26 pm26 an26 cd26 ct26, fun s v => .of_eq rfl, fun base _ _ => ?_⟩
  have D0 := k_operands_of (P := l.prog) (w := w) (base := base) B F0 (PySem.W.mg_of X G a0)
  have D1 := k_renumbered (P := l.prog) (w := w) (base := base) B F1 (PySem.W.mg_of X G a1)
  have D2 := k__used (P := l.prog) (w := w) (base := base) B F2 (PySem.W.mg_of X G a2) D0
  have D3 := k_neat (P := l.prog) (w := w) (base := base) B F3 (PySem.W.mg_of X G a3) D2 D1
  have D4 := k__masked (P := l.prog) (w := w) (base := base) B F4 (PySem.W.mg_of X G a4)
  have D5 := k__prefixed (P := l.prog) (w := w) (base := base) B F5 (PySem.W.mg_of X G a5)
  have D6 := k__of_one (P := l.prog) (w := w) (base := base) B F6 (PySem.W.mg_of X G a6) D5
  have D7 := k__of_two (P := l.prog) (w := w) (base := base) B F7 (PySem.W.mg_of X G a7)
  have D8 := k__whole (P := l.prog) (w := w) (base := base) B F8 (PySem.W.mg_of X G a8) D4 D6 D7
  have D9 := k_values (P := l.prog) (w := w) (base := base) B F9 (PySem.W.mg_of X G a9) D8
  have D10 := k_result (P := l.prog) (w := w) (base := base) B F10 (PySem.W.mg_of X G a10) D9
  have D11 := k__law_bag (P := l.prog) (w := w) (base := base) B F11 (PySem.W.mg_of X G a11)
  have D12 := k__law_draw (P := l.prog) (w := w) (base := base) B F12 (PySem.W.mg_of X G a12)
  have D13 := k__law_pick (P := l.prog) (w := w) (base := base) B F13 (PySem.W.mg_of X G a13) D12
  have D14 := k__law_power (P := l.prog) (w := w) (base := base) B F14 (PySem.W.mg_of X G a14)
  have D15 := k__law_arity (P := l.prog) (w := w) (base := base) B F15 (PySem.W.mg_of X G a15)
  have D16 := k__law_book (P := l.prog) (w := w) (base := base) B F16 (PySem.W.mg_of X G a16)
  have D17 := k__law_operand (P := l.prog) (w := w) (base := base) B F17 (PySem.W.mg_of X G a17) D12
  have D18 := k__law_row (P := l.prog) (w := w) (base := base) B F18 (PySem.W.mg_of X G a18) D12 D13 D15 D17
  have D19 := k__law_program (P := l.prog) (w := w) (base := base) B F19 (PySem.W.mg_of X G a19) D13 D18
  have D20 := k__law_any_words (P := l.prog) (w := w) (base := base) B F20 (PySem.W.mg_of X G a20) D12 D16
  have D21 := k__law_handed (P := l.prog) (w := w) (base := base) B F21 (PySem.W.mg_of X G a21) D14 D12 D13
  have D22 := k__law_used (P := l.prog) (w := w) (base := base) B F22 (PySem.W.mg_of X G a22)
  have D23 := k__law_neat (P := l.prog) (w := w) (base := base) B F23 (PySem.W.mg_of X G a23) D22
  have D24 := k__law_thin (P := l.prog) (w := w) (base := base) B F24 (PySem.W.mg_of X G a24) D19 D16 D12
  have D25 := k__law_is_chain_kept (P := l.prog) (w := w) (base := base) B F25 (PySem.W.mg_of X G a25) D13 D12 D3
  have D26 := k_law (P := l.prog) (w := w) (base := base) B F26 (PySem.W.mg_of X G a26) D11 D12 D25 D19 D20 D24 D13 D23 D3 D21 D10 hlaw
  exact D26.G
end Mi.K18
namespace Mi.BA
open PySem L2

def m__law_bag (ns : List Int) : MS Unit :=
  (mSeq (mPar 1 2 (mConsV (mRv (mKeep (mLc (mItems (mKeep (mScrCut ns 63 (mV 0)))) (gN 3) mYes (mBin addD (mBin mulD (mC (.int 2)) (mCall absD (mCons (mV 3) mNil))) (mCall intD (mCons (mBin ltD (mV 3) (mC (.int 0))) mNil))) [3]))) (mConsV (mRv (mBin addD (mC (.int 15029)) (mBin mulD (mC (.int 13)) (mScrLen ns (mV 0))))) mNilV)))
  (mSeq (mFor (mItems (mV 1)) (gN 3) (mSet 2 (mRv (mBin modD (mCall intD (mCons (mBin addD (mBin addD (mBin mulD (mV 2) (mC (.int 69621))) (mV 3)) (mC (.int 9))) mNil)) (mC (.int 4294967291))))))
  (mRet (mKeep (mDict [.inr "far", .inr "stirred", .inr "count"] (mCons (mKeep (mLc (mItems (mV 1)) (gN 3) (mTest (mBin gtD (mV 3) (mBin powD (mC (.int 10)) (mC (.int 15))))) (mV 3) [3])) (mCons (mV 2) (mCons (mC (.int 0)) mNil))))))))
def f__law_bag : List Int → Option PyData := mFunS 4 m__law_bag

def m__law_draw : MS Tr :=
  (mSeq (mSet 2 (mRv (mFar (mV 0))))
  (mSeq (mIfS (mFarNe (mV 2)) (mSeq (mSet 4 (mRv (mFarAt (mV 2) (mC (.int 0)))))
  (mSeq (mFarPut (mV 2) (mC (.int 0)) (mBin fdivD (mV 4) (mV 1)))
  (mSeq (mIfS (mTest (mBin ltD (mV 4) (mV 1))) (mDrop (mPop0 (mV 2))) mSkip)
  (mRet (mBin modD (mCall intD (mCons (mV 4) mNil)) (mV 1)))))) mSkip)
  (mSeq (mTput "far" "count" (mV 0) (mBin addD (mTget "far" "count" (mV 0)) (mC (.int 1))))
  (mSeq (mSet 3 (mRv (mBin modD (mCall intD (mCons (mBin addD (mTget "far" "stirred" (mV 0)) (mBin mulD (mC (.int 2654435761)) (mTget "far" "count" (mV 0)))) mNil)) (mC (.int 4294967291)))))
  (mSeq (mSet 3 (mRv (mBin modD (mCall intD (mCons (mBin addD (mBin addD (mBin mulD (mV 3) (mV 3)) (mBin mulD (mC (.int 40503)) (mTget "far" "count" (mV 0)))) (mC (.int 5))) mNil)) (mC (.int 4294967279)))))
  (mSeq (mSet 3 (mRv (mBin modD (mCall intD (mCons (mBin addD (mBin mulD (mV 3) (mV 3)) (mTget "far" "stirred" (mV 0))) mNil)) (mC (.int 4294967231)))))
  (mRet (mBin modD (mCall intD (mCons (mBin fdivD (mV 3) (mC (.int 512))) mNil)) (mV 1)))))))))
def f__law_draw : Tr → List PyData → Option (PyData × Tr) := mFunT 5 [true] m__law_draw

def m__law_pick : MS Tr :=
  (mRet (mBin ixD (mV 1) (mCallT [true] f__law_draw (mCons (mV 0) (mCons (mCall lenD (mCons (mV 1) mNil)) mNil)))))
def f__law_pick : Tr → List PyData → Option (PyData × Tr) := mFunT 2 [true] m__law_pick

def m__law_mixed : MS Tr :=
  (mSeq (mPar 2 3 (mConsV (mNew (mListL (mCons (mV 1) mNil))) (mConsV (mNew (mLst mNil)) mNilV)))
  (mSeq (whileN (mTest (mBin neD (mV 2) (mKeep (mLst mNil)))) (mAppP 3 2 (mPopAt 2 (mCallT [true] f__law_draw (mCons (mV 0) (mCons (mCall lenD (mCons (mV 2) mNil)) mNil))))) 100)
  (mRet (mV 3))))
def f__law_mixed : Tr → List PyData → Option (PyData × Tr) := mFunT 4 [true] m__law_mixed

end Mi.BA
/-! The tray of the first family of laws: what it draws, in ints. -/
namespace Mi.TA
open PySem L2

def m__law_tray (ns : List Int) : MS Unit :=
  (mSeq (mPar 1 2 (mConsV (mRv (mKeep (mLc (mItems (mKeep (mScrCut ns 60 (mV 0)))) (gN 3) mYes (mBin addD (mBin mulD (mC (.int 2)) (mCall absD (mCons (mV 3) mNil))) (mCall intD (mCons (mBin ltD (mV 3) (mC (.int 0))) mNil))) [3]))) (mConsV (mRv (mBin addD (mC (.int 31013)) (mBin mulD (mC (.int 5)) (mScrLen ns (mV 0))))) mNilV)))
  (mSeq (mFor (mItems (mV 1)) (gN 3) (mSet 2 (mRv (mBin modD (mCall intD (mCons (mBin addD (mBin addD (mBin mulD (mV 2) (mC (.int 39373))) (mV 3)) (mC (.int 3))) mNil)) (mC (.int 4294967291))))))
  (mRet (mKeep (mDict [.inr "great", .inr "stirred", .inr "turn"] (mCons (mKeep (mLc (mItems (mV 1)) (gN 3) (mTest (mBin geD (mV 3) (mBin powD (mC (.int 10)) (mC (.int 15))))) (mV 3) [3])) (mCons (mV 2) (mCons (mC (.int 0)) mNil))))))))
def f__law_tray : List Int → Option PyData := mFunS 4 m__law_tray

def m__law_draw : MS Tr :=
  (mSeq (mIfS (mTest (mBin ltD (mV 1) (mC (.int 2)))) (mRet (mC (.int 0))) mSkip)
  (mSeq (mIfS (mFarNe (mFar (mV 0))) (mSeq (mSet 3 (mRv (mPop0 (mFar (mV 0)))))
  (mSeq (mIfS (mTest (mBin geD (mV 3) (mV 1))) (mIns0 (mFar (mV 0)) (mBin fdivD (mV 3) (mV 1))) mSkip)
  (mRet (mBin modD (mCall intD (mCons (mV 3) mNil)) (mV 1))))) mSkip)
  (mSeq (mTput "great" "turn" (mV 0) (mBin addD (mTget "great" "turn" (mV 0)) (mC (.int 1))))
  (mSeq (mSet 2 (mRv (mBin modD (mCall intD (mCons (mBin addD (mTget "great" "stirred" (mV 0)) (mBin mulD (mC (.int 2654435761)) (mTget "great" "turn" (mV 0)))) mNil)) (mC (.int 4294967279)))))
  (mSeq (mSet 2 (mRv (mBin modD (mCall intD (mCons (mBin addD (mBin addD (mBin mulD (mV 2) (mV 2)) (mBin mulD (mC (.int 48271)) (mTget "great" "turn" (mV 0)))) (mC (.int 21))) mNil)) (mC (.int 4294967291)))))
  (mSeq (mSet 2 (mRv (mBin modD (mCall intD (mCons (mBin addD (mBin mulD (mV 2) (mV 2)) (mTget "great" "stirred" (mV 0))) mNil)) (mC (.int 4294967231)))))
  (mRet (mBin modD (mCall intD (mCons (mBin fdivD (mV 2) (mC (.int 512))) mNil)) (mV 1)))))))))
def f__law_draw : Tr → List PyData → Option (PyData × Tr) := mFunT 4 [true] m__law_draw

def m__law_pick : MS Tr :=
  (mRet (mBin ixD (mV 1) (mCallT [true] f__law_draw (mCons (mV 0) (mCons (mCall lenD (mCons (mV 1) mNil)) mNil)))))
def f__law_pick : Tr → List PyData → Option (PyData × Tr) := mFunT 2 [true] m__law_pick

def m__law_machine : MS Tr :=
  (mSeq (mPar 3 4 (mConsV (mNew (mLst mNil)) (mConsV (mRv (mCallT [true] f__law_draw (mCons (mV 0) (mCons (mC (.int 3)) mNil)))) mNilV)))
  (mSeq (mFor (mRange1 (mCons (mV 1) mNil)) (gN 5) (mSeq (mSet 6 (mNew (mLst mNil)))
  (mSeq (mFor (mRange1 (mCons (mBin shlD (mC (.int 1)) (mV 2)) mNil)) (gN 7) (mSeq (mSet 8 (mRv (mCallT [true] f__law_draw (mCons (mV 0) (mCons (mV 1) mNil)))))
  (mSeq (mIfS (mAnd (mTest (mBin eqD (mV 4) (mC (.int 1)))) (mTest (mBin gtD (mCallT [true] f__law_draw (mCons (mV 0) (mCons (mC (.int 3)) mNil))) (mC (.int 0))))) (mSet 8 (mRv (mCallT [true] f__law_pick (mCons (mV 0) (mCons (mKeep (mLst (mCons (mV 5) (mCons (mBin modD (mCall intD (mCons (mBin addD (mV 5) (mC (.int 1))) mNil)) (mV 1)) mNil)))) mNil))))) mSkip)
  (mApp 6 (mTup (mCons (mV 8) (mCons (mCallT [true] f__law_draw (mCons (mV 0) (mCons (mC (.int 2)) mNil))) mNil)))))))
  (mApp 3 (mCall tupleD (mCons (mV 6) mNil))))))
  (mRet (mTup (mCons (mV 2) (mCons (mCall tupleD (mCons (mV 3) mNil)) mNil))))))
def f__law_machine : Tr → List PyData → Option (PyData × Tr) := mFunT 9 [true, true] m__law_machine

end Mi.TA
/-! What the first family's tray draws. -/
namespace Mi
open PySem L2
theorem bits_le {x : Int} {k : Nat} (h : x.natAbs < 2 ^ k) : Builtin.Int.intBits x ≤ k := by
  unfold Builtin.Int.intBits
  split
  · exact Nat.zero_le _
  · rename_i hx
    have hx : x ≠ 0 := by simpa using hx
    have : x.natAbs.log2 < k := (Nat.log2_lt (by omega)).mpr h
    omega
theorem mulI_ok {i j : Int} {a b : Nat} (h1 : i.natAbs < 2 ^ a) (h2 : j.natAbs < 2 ^ b) (h : a + b ≤ 134217728) : mulI i j = some (.int (i * j)) := by
  have q1 := bits_le h1
  have q2 := bits_le h2
  unfold mulI
  rw [if_pos (by omega)]
theorem log_small {m : Nat} (h : m < 2 ^ 4000) : m.log2 < 9000 := by
  by_cases z : m = 0
  · subst z; decide
  · have : m.log2 < 4000 := (Nat.log2_lt z).mpr h
    omega
namespace TA
def esOf (s k : Int) : List (Str × Int) := [(Str.ofString "stirred", s), (Str.ofString "turn", k)]
def TrOk (n : Int) (t : Tr) : Prop := ∃ s k : Int, t.es = esOf s k ∧ 0 ≤ s ∧ s < 4294967291 ∧ 0 ≤ k ∧ k ≤ n ∧ t.far.length ≤ 60
theorem TrOk.mono {n m : Int} {t : Tr} (h : TrOk n t) (le : n ≤ m) : TrOk m t := by
  obtain ⟨s, k, e, h1, h2, h3, h4, h5⟩ := h
  exact ⟨s, k, e, h1, h2, h3, by omega, h5⟩
theorem modI (x : Int) {M : Int} (h : 0 < M) : ∃ a : Int, x % M = a ∧ 0 ≤ a ∧ a < M := ⟨_, rfl, Int.emod_nonneg _ (by omega), Int.emod_lt_of_pos _ h⟩
theorem small_nat {a : Int} {k : Nat} (h0 : 0 ≤ a) (h : a < 2 ^ k) : a.natAbs < 2 ^ k := by
  obtain ⟨n, rfl⟩ := Int.eq_ofNat_of_zero_le h0
  rw [Int.natAbs_natCast]
  exact_mod_cast h
theorem k1 : Str.ofString "great" ≠ Str.ofString "turn" := by decide
theorem k2 : Str.ofString "great" ≠ Str.ofString "stirred" := by decide
theorem k3 : Str.ofString "stirred" ≠ Str.ofString "turn" := by decide
theorem draw_far {c : Int} {r : List Int} {es : List (Str × Int)} {m : Nat} (h2 : 2 ≤ m) (hm : m < 2 ^ 4000) (hl : r.length ≤ 59) : f__law_draw ⟨c :: r, es⟩ [.int m] = some (.int (c % m), ⟨if (m : Int) ≤ c then c / m :: r else r, es⟩) := by
  have e2 : ¬ ((m : Int) < 2) := by omega
  have hmod : 0 < m := by omega
  have hd : m.log2 < 9000 := log_small hm
  have hz : r.length < sizeLine := Nat.lt_of_le_of_lt hl (by decide)
  by_cases hc : (m : Int) ≤ c
  · simp [f__law_draw, mFunT, m__law_draw, entryT, slotsOf, mSeq, mIfS, mTest, mBin, mV, mC, rd, ltD, flat, mSkip, mFarNe, mFar, mSet, mRv, mPop0, geD, mIns0, fdivD, mRet, mCall, mCons, mNil, rds, intD, modD, e2, hc, hmod, hd, hz]
  · simp [f__law_draw, mFunT, m__law_draw, entryT, slotsOf, mSeq, mIfS, mTest, mBin, mV, mC, rd, ltD, flat, mSkip, mFarNe, mFar, mSet, mRv, mPop0, geD, mIns0, fdivD, mRet, mCall, mCons, mNil, rds, intD, modD, e2, hc, hmod, hd, hz]
theorem draw_turn {s k : Int} {m : Nat} (h2 : 2 ≤ m) (hs0 : 0 ≤ s) (hs : s < 4294967291) (hk0 : 0 ≤ k) (hk : k ≤ 1000000000) : ∃ r : Int, 0 ≤ r ∧ r < m ∧ f__law_draw ⟨[], esOf s k⟩ [.int m] = some (.int r, ⟨[], esOf s (k + 1)⟩) := by
  have e2 : ¬ ((m : Int) < 2) := by omega
  have hmod : 0 < m := by omega
  have em : mulI 2654435761 (k + 1) = some (.int (2654435761 * (k + 1))) := mulI_ok (a := 40) (b := 40) (by decide) (small_nat (by omega) (by omega)) (by decide)
  have em2 : mulI 48271 (k + 1) = some (.int (48271 * (k + 1))) := mulI_ok (a := 40) (b := 40) (by decide) (small_nat (by omega) (by omega)) (by decide)
  have sq : ∀ a : Int, 0 ≤ a → a < 4294967300 → mulI a a = some (.int (a * a)) := fun a h0 ha => mulI_ok (a := 40) (b := 40) (small_nat h0 (by omega)) (small_nat h0 (by omega)) (by decide)
  obtain ⟨a, ea, a0, ha⟩ := modI (s + 2654435761 * (k + 1)) (M := 4294967279) (by decide)
  obtain ⟨b, eb, b0, hb⟩ := modI (a * a + 48271 * (k + 1) + 21) (M := 4294967291) (by decide)
  obtain ⟨c, ec, c0, hc⟩ := modI (b * b + s) (M := 4294967231) (by decide)
  have sa := sq a a0 (by omega)
  have sb := sq b b0 (by omega)
  refine ⟨c / 512 % m, Int.emod_nonneg _ (by omega), Int.emod_lt_of_pos _ (by omega), ?_⟩
  unfold f__law_draw mFunT m__law_draw esOf
  rw [seq_nx (ρ1 := [some (.tray 0), some (.bor (.int m)), none, none]) (t1 := ⟨[], esOf s k⟩) (by simp [entryT, slotsOf, mIfS, mTest, mBin, mV, mC, rd, ltD, flat, mSkip, e2, esOf])]
  rw [seq_nx (ρ1 := [some (.tray 0), some (.bor (.int m)), none, none]) (t1 := ⟨[], esOf s k⟩) (by simp [mIfS, mFarNe, mFar, mV, mSkip])]
  rw [seq_nx (ρ1 := [some (.tray 0), some (.bor (.int m)), none, none]) (t1 := ⟨[], esOf s (k + 1)⟩) (by
    simp [mTput, mBin, mTget, mV, mC, rd, addD, tget, tput, k1, k3, esOf]
    decide)]
  rw [seq_nx (ρ1 := [some (.tray 0), some (.bor (.int m)), some (.fro (.int a)), none]) (t1 := ⟨[], esOf s (k + 1)⟩) (by
    simp [mSet, mRv, mBin, mTget, mCall, mCons, mNil, rds, intD, mV, mC, rd, addD, mulD, modD, tget, k1, k2, k3, esOf, em, ea])]
  rw [seq_nx (ρ1 := [some (.tray 0), some (.bor (.int m)), some (.fro (.int b)), none]) (t1 := ⟨[], esOf s (k + 1)⟩) (by
    simp [mSet, mRv, mBin, mTget, mCall, mCons, mNil, rds, intD, mV, mC, rd, addD, mulD, modD, tget, k1, k2, k3, esOf, em2, sa, eb])]
  rw [seq_nx (ρ1 := [some (.tray 0), some (.bor (.int m)), some (.fro (.int c)), none]) (t1 := ⟨[], esOf s (k + 1)⟩) (by
    simp [mSet, mRv, mBin, mTget, mCall, mCons, mNil, rds, intD, mV, mC, rd, addD, mulD, modD, tget, k1, k2, k3, esOf, sb, ec])]
  have l512 : Nat.log2 512 < 9000 := by decide
  simp [mRet, mBin, mCall, mCons, mNil, rds, intD, mV, mC, rd, fdivD, modD, flat, hmod, l512, esOf]
theorem draw_one {t : Tr} {m : Nat} (h2 : m < 2) : f__law_draw t [.int m] = some (.int 0, t) := by
  have e2 : (m : Int) < 2 := by omega
  simp [f__law_draw, mFunT, m__law_draw, entryT, slotsOf, mSeq, mIfS, mTest, mBin, mV, mC, rd, ltD, flat, mRet, e2]
/-- a draw -/
theorem draw {n : Int} {t : Tr} {m : Nat} (h : TrOk n t) (hn : n ≤ 1000000000) (hm : m < 2 ^ 4000) : ∃ (r : Nat) (t' : Tr), f__law_draw t [.int m] = some (.int r, t') ∧ TrOk (n + 1) t' ∧ (r < m ∨ (m < 2 ∧ r = 0)) := by
  by_cases h2 : m < 2
  · exact ⟨0, t, draw_one h2, h.mono (by omega), .inr ⟨h2, rfl⟩⟩
  · have h2 : 2 ≤ m := by omega
    obtain ⟨s, k, e, h0, h1, h3, h4, h5⟩ := h
    obtain ⟨far, es⟩ := t
    cases (show es = esOf s k from e)
    cases far with
    | nil =>
      obtain ⟨r, r0, rm, er⟩ := draw_turn h2 h0 h1 h3 (by omega)
      obtain ⟨r', rfl⟩ := Int.eq_ofNat_of_zero_le r0
      exact ⟨r', _, er, ⟨s, k + 1, rfl, h0, h1, by omega, by omega, Nat.zero_le _⟩, .inl (by omega)⟩
    | cons c rest =>
      have hl : rest.length ≤ 59 := by
        have : (c :: rest).length ≤ 60 := h5
        rw [List.length_cons] at this
        omega
      have hp : (0 : Int) < m := by omega
      obtain ⟨r', hr'⟩ := Int.eq_ofNat_of_zero_le (Int.emod_nonneg c (b := (m : Int)) (by omega))
      have hr2 := Int.emod_lt_of_pos c hp
      refine ⟨r', _, by rw [draw_far h2 hm hl, hr'], ⟨s, k, rfl, h0, h1, h3, by omega, ?_⟩, .inl (by omega)⟩
      show (if (m : Int) ≤ c then c / m :: rest else rest).length ≤ 60
      split
      · rw [List.length_cons]; omega
      · omega
/-- one of some -/
theorem pick {n : Int} {t : Tr} {xs : List PyData} (h : TrOk n t) (hn : n ≤ 1000000000) (hx : xs ≠ []) (hl : xs.length < 1000000) : ∃ (x : PyData) (t' : Tr), f__law_pick t [.list xs] = some (x, t') ∧ TrOk (n + 1) t' ∧ x ∈ xs := by
  obtain ⟨r, t', e, h', hr⟩ := draw (m := xs.length) h hn (Nat.lt_of_lt_of_le (Nat.lt_trans hl (by decide : 1000000 < 2 ^ 20)) (Nat.pow_le_pow_right (by decide) (by decide)))
  have hpos : 0 < xs.length := List.length_pos_iff.mpr hx
  have hr : r < xs.length := by
    rcases hr with hr | ⟨_, hr⟩
    · exact hr
    · omega
  refine ⟨xs[r], t', ?_, h', List.getElem_mem hr⟩
  have ha : atI xs (r : Int) = some xs[r] := atI_nat (List.getElem?_eq_getElem hr)
  simp [f__law_pick, mFunT, m__law_pick, entryT, slotsOf, mRet, mBin, mV, flat, mCallT, mCons, mNil, mCall, rds, rd, lenD, args, argOf, e, ixD, ha]
end TA
end Mi
/-! The first family's tray as it is made. -/
namespace Mi
open PySem L2
theorem cutI_le (ns : List Int) (n : Nat) : (cutI ns n).length ≤ n := by
  unfold cutI
  rw [List.length_take, HT.sIx_nat]
  omega
theorem cutI_mem {ns : List Int} {n z : Int} (h : z ∈ cutI ns n) : z ∈ ns := by
  unfold cutI at h
  exact List.mem_of_mem_drop (List.mem_of_mem_take h)
def intL (zs : List Int) : List PyData := zs.map .int
theorem intL_len (zs : List Int) : (intL zs).length = zs.length := List.length_map _
theorem intL_mem {zs : List Int} {d : PyData} (h : d ∈ intL zs) : ∃ z, z ∈ zs ∧ d = .int z := by
  obtain ⟨z, hz, rfl⟩ := List.mem_map.mp h
  exact ⟨z, hz, rfl⟩
theorem intL_map {zs : List Int} {h : PyData → PyData} {k : Int → Int} (e : ∀ z, h (.int z) = .int (k z)) : (intL zs).map h = intL (zs.map k) := by
  unfold intL
  rw [List.map_map, List.map_map]
  exact List.map_congr_left fun z _ => e z
theorem intL_filter {zs : List Int} {h : PyData → Bool} {k : Int → Bool} (e : ∀ z, h (.int z) = k z) : (intL zs).filter h = intL (zs.filter k) := by
  unfold intL
  rw [List.filter_map]
  congr 1
  exact List.filter_congr fun z _ => e z
theorem natAbs_abs (x : Int) : (if x < 0 then -x else x).natAbs = x.natAbs := by split <;> omega
theorem bits_abs (x : Int) : Builtin.Int.intBits (if x < 0 then -x else x) = Builtin.Int.intBits x := by
  have h := natAbs_abs x
  unfold Builtin.Int.intBits
  rw [h]
  have e : ((if x < 0 then -x else x) == 0) = (x == 0) := by
    by_cases hx : x = 0
    · subst hx; rfl
    · have : ¬ (if x < 0 then -x else x) = 0 := by split <;> omega
      rw [beq_eq_false_iff_ne.mpr hx, beq_eq_false_iff_ne.mpr this]
  rw [e]
namespace TA
def cellOf (z : Int) : Int := 2 * (if z < 0 then -z else z) + (if z < 0 then 1 else 0)
def cells (ns : List Int) : List Int := (cutI ns 60).map cellOf
theorem cells_le (ns : List Int) : (cells ns).length ≤ 60 := by
  unfold cells
  rw [List.length_map]
  exact cutI_le ns 60
theorem le60 {n : Nat} (h : n ≤ 60) : n ≤ sizeLine := Nat.le_trans h (by decide)
def mCell : ME Unit := mBin addD (mBin mulD (mC (.int 2)) (mCall absD (mCons (mV 3) mNil))) (mCall intD (mCons (mBin ltD (mV 3) (mC (.int 0))) mNil))
theorem cell_ok {z : Int} (hb : Builtin.Int.intBits z ≤ 1048576) {a b c : Option Val} : mCell [a, b, c, some (.fro (.int z))] () = some (.fro (.int (cellOf z)), ()) := by
  have b2 : Builtin.Int.intBits 2 ≤ 2 := bits_le (by decide)
  have em : mulI 2 (if z < 0 then -z else z) = some (.int (2 * (if z < 0 then -z else z))) := by
    unfold mulI
    rw [bits_abs, if_pos (by omega)]
  simp [mCell, mBin, mC, mCall, mCons, mNil, mV, rds, rd, absD, mulD, em, ltD, intD, addD, cellOf]
theorem tray1 (ns : List Int) (hb : ∀ z ∈ ns, Builtin.Int.intBits z ≤ 1048576) : mLc (T := Unit) (mItems (mKeep (mScrCut ns 60 (mV 0)))) (gN 3) mYes mCell [3] [some (.tray 0), none, none, none] () = some (.list (intL (cells ns)), ()) := by
  rw [mLc_map (ds := intL (cutI ns 60)) (t1 := ()) (fun d => match d with | .int z => .int (cellOf z) | d => d) rfl (by rw [intL_len]; exact le60 (cutI_le ns 60))]
  · rw [intL_map (k := cellOf) fun z => rfl]
    rfl
  · intro d hd
    obtain ⟨z, hz, rfl⟩ := intL_mem hd
    exact ⟨_, rfl, cell_ok (hb z (cutI_mem hz))⟩
def mStir : MS Unit := mSet 2 (mRv (mBin modD (mCall intD (mCons (mBin addD (mBin addD (mBin mulD (mV 2) (mC (.int 39373))) (mV 3)) (mC (.int 3))) mNil)) (mC (.int 4294967291))))
theorem stir_ok {a b : Option Val} {s z : Int} (h0 : 0 ≤ s) (h1 : s < 4294967291) : mStir [a, b, some (.fro (.int s)), some (.fro (.int z))] () = some (.nx [a, b, some (.fro (.int ((s * 39373 + z + 3) % 4294967291))), some (.fro (.int z))], ()) := by
  have em : mulD (.int s) (.int 39373) = some (.int (s * 39373)) := mulI_ok (a := 40) (b := 40) (small_nat h0 (by omega)) (by decide) (by decide)
  exact ev_set (ev_rv (ev_bin (ev_call (ev_cons (ev_bin (ev_bin (ev_bin (r1 := .fro (.int s)) rfl rfl rfl rfl em) (r2 := .fro (.int z)) rfl rfl rfl (z := .int (s * 39373 + z)) rfl) rfl rfl rfl (z := .int (s * 39373 + z + 3)) rfl) ev_nil) rfl (z := .int (s * 39373 + z + 3)) rfl) rfl rfl rfl (mod_ok (by decide))))
theorem tray2 (cs : List Int) (s0 : Int) (h0 : 0 ≤ s0) (h1 : s0 < 4294967291) : ∃ (s : Int) (x : Option Val), 0 ≤ s ∧ s < 4294967291 ∧ mFor (T := Unit) (mItems (mV 1)) (gN 3) mStir [some (.tray 0), some (.fro (.list (intL cs))), some (.fro (.int s0)), none] () = some (.nx [some (.tray 0), some (.fro (.list (intL cs))), some (.fro (.int s)), x], ()) := by
  obtain ⟨ρ', t', e, s, x, h0, h1, rfl⟩ := mFor_ind (T := Unit) (its := mItems (mV 1)) (g := gN 3) (body := mStir)
    (ρ := [some (.tray 0), some (.fro (.list (intL cs))), some (.fro (.int s0)), none]) (t := ()) (t1 := ()) (ds := intL cs) (fun _ ρ _ => ∃ (s : Int) (x : Option Val), 0 ≤ s ∧ s < 4294967291 ∧ ρ = [some (.tray 0), some (.fro (.list (intL cs))), some (.fro (.int s)), x]) rfl ⟨_, none, h0, h1, rfl⟩ (by
      rintro j d ρ t hj ⟨s, x, h0, h1, rfl⟩
      obtain ⟨z, hz, rfl⟩ := intL_mem (List.mem_of_getElem? hj)
      exact ⟨_, _, (), rfl, stir_ok h0 h1, _, some (.fro (.int z)), Int.emod_nonneg _ (by omega), Int.emod_lt_of_pos _ (by decide), rfl⟩)
  exact ⟨s, x, h0, h1, e⟩
def isFar (z : Int) : Bool := decide (1000000000000000 ≤ z)
theorem tray3 (cs : List Int) (hl : cs.length ≤ 60) {a c d : Option Val} : mLc (T := Unit) (mItems (mV 1)) (gN 3) (mTest (mBin geD (mV 3) (mBin powD (mC (.int 10)) (mC (.int 15))))) (mV 3) [3] [a, some (.fro (.list (intL cs))), c, d] () = some (.list (intL (cs.filter isFar)), ()) := by
  rw [mLc_filt (ds := intL cs) (t1 := ()) (fun d => match d with | .int z => isFar z | _ => false) id rfl (by rw [intL_len]; exact le60 hl)]
  · rw [List.map_id, intL_filter (k := isFar) fun z => rfl]
  · intro d hd
    obtain ⟨z, hz, rfl⟩ := intL_mem hd
    refine ⟨_, rfl, ?_, fun _ => rfl⟩
    simp [wipeR, mTest, mBin, mV, mC, rd, powD, geD, isFar]
theorem tray (ns : List Int) (hl : ns.length ≤ 63) (hb : ∀ z ∈ ns, Builtin.Int.intBits z ≤ 1048576) : ∃ t0, f__law_tray ns = some (trD "great" t0) ∧ TrOk 0 t0 := by
  have em : mulI 5 (ns.length : Int) = some (.int (5 * (ns.length : Int))) := mulI_ok (a := 10) (b := 10) (by decide) (by rw [Int.natAbs_natCast]; omega) (by decide)
  have step1 : mPar (T := Unit) 1 2 (mConsV (mRv (mKeep (mLc (mItems (mKeep (mScrCut ns 60 (mV 0)))) (gN 3) mYes mCell [3]))) (mConsV (mRv (mBin addD (mC (.int 31013)) (mBin mulD (mC (.int 5)) (mScrLen ns (mV 0))))) mNilV))
      [some (.tray 0), none, none, none] () = some (.nx [some (.tray 0), some (.fro (.list (intL (cells ns)))), some (.fro (.int (31013 + 5 * (ns.length : Int)))), none], ()) := by
    simp [mPar, mConsV, mRv, mKeep, tray1 ns hb, mBin, mC, mScrLen, mV, rd, mulD, em, addD, mNilV]
  obtain ⟨s, x, h0, h1, step2⟩ := tray2 (cells ns) (31013 + 5 * (ns.length : Int)) (by omega) (by omega)
  refine ⟨⟨(cells ns).filter isFar, esOf s 0⟩, ?_, ⟨s, 0, rfl, h0, h1, Int.le_refl 0, Int.le_refl 0, Nat.le_trans (List.length_filter_le _ _) (cells_le ns)⟩⟩
  have e3 := tray3 (cells ns) (cells_le ns) (a := some (.tray 0)) (c := some (.fro (.int s))) (d := x)
  have nd : (([.inr "great", .inr "stirred", .inr "turn"] : List Key).Nodup ∧ ([.inr "great", .inr "stirred", .inr "turn"] : List Key).length ≤ 15) := by decide
  have step3 : mRet (T := Unit) (mKeep (mDict [.inr "great", .inr "stirred", .inr "turn"] (mCons (mKeep (mLc (mItems (mV 1)) (gN 3) (mTest (mBin geD (mV 3) (mBin powD (mC (.int 10)) (mC (.int 15))))) (mV 3) [3])) (mCons (mV 2) (mCons (mC (.int 0)) mNil)))))
      [some (.tray 0), some (.fro (.list (intL (cells ns)))), some (.fro (.int s)), x] () = some (.rt (trD "great" ⟨(cells ns).filter isFar, esOf s 0⟩), ()) := by
    exact ev_ret (ev_keep ((ev_dict (ds := [.list (intL ((cells ns).filter isFar)), .int s, .int 0]) (ev_cons (ev_keep e3) (ev_cons (r := .fro (.int s)) rfl (ev_cons (r := .fro (.int 0)) rfl ev_nil))) rfl ⟨rfl, nd⟩).trans rfl))
  unfold f__law_tray mFunS m__law_tray
  have e0 : (some (.tray 0) :: List.replicate (4 - 1) none : Env) = [some (.tray 0), none, none, none] := rfl
  rw [e0]
  have all : mSeq (T := Unit) (mPar 1 2 (mConsV (mRv (mKeep (mLc (mItems (mKeep (mScrCut ns 60 (mV 0)))) (gN 3) mYes mCell [3]))) (mConsV (mRv (mBin addD (mC (.int 31013)) (mBin mulD (mC (.int 5)) (mScrLen ns (mV 0))))) mNilV))) (mSeq (mFor (mItems (mV 1)) (gN 3) mStir)
    (mRet (mKeep (mDict [.inr "great", .inr "stirred", .inr "turn"] (mCons (mKeep (mLc (mItems (mV 1)) (gN 3) (mTest (mBin geD (mV 3) (mBin powD (mC (.int 10)) (mC (.int 15))))) (mV 3) [3])) (mCons (mV 2) (mCons (mC (.int 0)) mNil))))))) [some (.tray 0), none, none, none] () = some (.rt (trD "great" ⟨(cells ns).filter isFar, esOf s 0⟩), ()) := by
    rw [seq_nx step1, seq_nx step2, step3]
  unfold mCell mStir at all
  rw [all]
end TA
end Mi
/-! What the second family's bag draws. -/
namespace Mi
open PySem L2
namespace BA
def esOf (s k : Int) : List (Str × Int) := [(Str.ofString "stirred", s), (Str.ofString "count", k)]
def TrOk (n : Int) (t : Tr) : Prop := ∃ s k : Int, t.es = esOf s k ∧ 0 ≤ s ∧ s < 4294967291 ∧ 0 ≤ k ∧ k ≤ n ∧ t.far.length ≤ 63
theorem TrOk.mono {n m : Int} {t : Tr} (h : TrOk n t) (le : n ≤ m) : TrOk m t := by
  obtain ⟨s, k, e, h1, h2, h3, h4, h5⟩ := h
  exact ⟨s, k, e, h1, h2, h3, by omega, h5⟩
theorem modI (x : Int) {M : Int} (h : 0 < M) : ∃ a : Int, x % M = a ∧ 0 ≤ a ∧ a < M := ⟨_, rfl, Int.emod_nonneg _ (by omega), Int.emod_lt_of_pos _ h⟩
theorem k1 : Str.ofString "far" ≠ Str.ofString "count" := by decide
theorem k2 : Str.ofString "far" ≠ Str.ofString "stirred" := by decide
theorem k3 : Str.ofString "stirred" ≠ Str.ofString "count" := by decide
theorem ixN0 (n : Nat) : ixN (n + 1) 0 = some 0 := by
  unfold ixN
  rw [if_pos (by omega), if_pos (by omega)]
  rfl
theorem draw_far {c : Int} {r : List Int} {es : List (Str × Int)} {m : Nat} (h2 : 1 ≤ m) (hm : m < 2 ^ 4000) : f__law_draw ⟨c :: r, es⟩ [.int m] = some (.int (c % m), ⟨if c < (m : Int) then r else c / m :: r, es⟩) := by
  have hmod : 0 < m := by omega
  have hd : m.log2 < 9000 := log_small hm
  by_cases hc : c < (m : Int)
  · simp [f__law_draw, mFunT, m__law_draw, entryT, slotsOf, mSeq, mIfS, mTest, mBin, mV, mC, rd, ltD, flat, mSkip, mFarNe, mFar, mSet, mRv, mPop0, mFarAt, mFarPut, mDrop, atI, ixN0, fdivD, mRet, mCall, mCons, mNil, rds, intD, modD, hc, hmod, hd]
  · simp [f__law_draw, mFunT, m__law_draw, entryT, slotsOf, mSeq, mIfS, mTest, mBin, mV, mC, rd, ltD, flat, mSkip, mFarNe, mFar, mSet, mRv, mPop0, mFarAt, mFarPut, mDrop, atI, ixN0, fdivD, mRet, mCall, mCons, mNil, rds, intD, modD, hc, hmod, hd]
theorem small_nat {a : Int} {k : Nat} (h0 : 0 ≤ a) (h : a < 2 ^ k) : a.natAbs < 2 ^ k := by
  obtain ⟨n, rfl⟩ := Int.eq_ofNat_of_zero_le h0
  rw [Int.natAbs_natCast]
  exact_mod_cast h
theorem draw_turn {s k : Int} {m : Nat} (h2 : 1 ≤ m) (hs0 : 0 ≤ s) (hs : s < 4294967291) (hk0 : 0 ≤ k) (hk : k ≤ 1000000000) : ∃ r : Int, 0 ≤ r ∧ r < m ∧ f__law_draw ⟨[], esOf s k⟩ [.int m] = some (.int r, ⟨[], esOf s (k + 1)⟩) := by
  have hmod : 0 < m := by omega
  have em : mulI 2654435761 (k + 1) = some (.int (2654435761 * (k + 1))) := mulI_ok (a := 40) (b := 40) (by decide) (small_nat (by omega) (by omega)) (by decide)
  have em2 : mulI 40503 (k + 1) = some (.int (40503 * (k + 1))) := mulI_ok (a := 40) (b := 40) (by decide) (small_nat (by omega) (by omega)) (by decide)
  have sq : ∀ a : Int, 0 ≤ a → a < 4294967300 → mulI a a = some (.int (a * a)) := fun a h0 ha => mulI_ok (a := 40) (b := 40) (small_nat h0 (by omega)) (small_nat h0 (by omega)) (by decide)
  obtain ⟨a, ea, a0, ha⟩ := modI (s + 2654435761 * (k + 1)) (M := 4294967291) (by decide)
  obtain ⟨b, eb, b0, hb⟩ := modI (a * a + 40503 * (k + 1) + 5) (M := 4294967279) (by decide)
  obtain ⟨c, ec, c0, hc⟩ := modI (b * b + s) (M := 4294967231) (by decide)
  have sa := sq a a0 (by omega)
  have sb := sq b b0 (by omega)
  refine ⟨c / 512 % m, Int.emod_nonneg _ (by omega), Int.emod_lt_of_pos _ (by omega), ?_⟩
  unfold f__law_draw mFunT m__law_draw esOf
  rw [seq_nx (ρ1 := [some (.tray 0), some (.bor (.int m)), some (.tray 1), none, none]) (t1 := ⟨[], esOf s k⟩) (by simp [entryT, slotsOf, mSet, mRv, mFar, mV, esOf])]
  rw [seq_nx (ρ1 := [some (.tray 0), some (.bor (.int m)), some (.tray 1), none, none]) (t1 := ⟨[], esOf s k⟩) (by simp [mIfS, mFarNe, mV, mSkip])]
  rw [seq_nx (ρ1 := [some (.tray 0), some (.bor (.int m)), some (.tray 1), none, none]) (t1 := ⟨[], esOf s (k + 1)⟩) (by
    simp [mTput, mBin, mTget, mV, mC, rd, addD, tget, tput, k1, k3, esOf]
    decide)]
  rw [seq_nx (ρ1 := [some (.tray 0), some (.bor (.int m)), some (.tray 1), some (.fro (.int a)), none]) (t1 := ⟨[], esOf s (k + 1)⟩) (by
    simp [mSet, mRv, mBin, mTget, mCall, mCons, mNil, rds, intD, mV, mC, rd, addD, mulD, modD, tget, k1, k2, k3, esOf, em, ea])]
  rw [seq_nx (ρ1 := [some (.tray 0), some (.bor (.int m)), some (.tray 1), some (.fro (.int b)), none]) (t1 := ⟨[], esOf s (k + 1)⟩) (by
    simp [mSet, mRv, mBin, mTget, mCall, mCons, mNil, rds, intD, mV, mC, rd, addD, mulD, modD, tget, k1, k2, k3, esOf, em2, sa, eb])]
  rw [seq_nx (ρ1 := [some (.tray 0), some (.bor (.int m)), some (.tray 1), some (.fro (.int c)), none]) (t1 := ⟨[], esOf s (k + 1)⟩) (by
    simp [mSet, mRv, mBin, mTget, mCall, mCons, mNil, rds, intD, mV, mC, rd, addD, mulD, modD, tget, k1, k2, k3, esOf, sb, ec])]
  have l512 : Nat.log2 512 < 9000 := by decide
  simp [mRet, mBin, mCall, mCons, mNil, rds, intD, mV, mC, rd, fdivD, modD, flat, hmod, l512, esOf]
/-- a draw -/
theorem draw {n : Int} {t : Tr} {m : Nat} (h : TrOk n t) (hn : n ≤ 1000000000) (h0 : 1 ≤ m) (hm : m < 2 ^ 4000) : ∃ (r : Nat) (t' : Tr), f__law_draw t [.int m] = some (.int r, t') ∧ TrOk (n + 1) t' ∧ r < m := by
  obtain ⟨s, k, e, h0, h1, h3, h4, h5⟩ := h
  obtain ⟨far, es⟩ := t
  cases (show es = esOf s k from e)
  cases far with
  | nil =>
    obtain ⟨r, r0, rm, er⟩ := draw_turn (m := m) (by omega) h0 h1 h3 (by omega)
    obtain ⟨r', rfl⟩ := Int.eq_ofNat_of_zero_le r0
    exact ⟨r', _, er, ⟨s, k + 1, rfl, h0, h1, by omega, by omega, Nat.zero_le _⟩, by omega⟩
  | cons c rest =>
    have hl : rest.length ≤ 62 := by
      have : (c :: rest).length ≤ 63 := h5
      rw [List.length_cons] at this
      omega
    have hp : (0 : Int) < m := by omega
    obtain ⟨r', hr'⟩ := Int.eq_ofNat_of_zero_le (Int.emod_nonneg c (b := (m : Int)) (by omega))
    have hr2 := Int.emod_lt_of_pos c hp
    refine ⟨r', _, by rw [draw_far (by omega) hm, hr'], ⟨s, k, rfl, h0, h1, h3, by omega, ?_⟩, by omega⟩
    show (if c < (m : Int) then rest else c / m :: rest).length ≤ 63
    split
    · omega
    · rw [List.length_cons]; omega
/-- one of some -/
theorem pick {n : Int} {t : Tr} {xs : List PyData} (h : TrOk n t) (hn : n ≤ 1000000000) (hx : xs ≠ []) (hl : xs.length < 1000000) : ∃ (x : PyData) (t' : Tr), f__law_pick t [.list xs] = some (x, t') ∧ TrOk (n + 1) t' ∧ x ∈ xs := by
  have hpos : 0 < xs.length := List.length_pos_iff.mpr hx
  obtain ⟨r, t', e, h', hr⟩ := draw (m := xs.length) h hn (by omega) (Nat.lt_of_lt_of_le (Nat.lt_trans hl (by decide : 1000000 < 2 ^ 20)) (Nat.pow_le_pow_right (by decide) (by decide)))
  refine ⟨xs[r], t', ?_, h', List.getElem_mem hr⟩
  have ha : atI xs (r : Int) = some xs[r] := atI_nat (List.getElem?_eq_getElem hr)
  simp [f__law_pick, mFunT, m__law_pick, entryT, slotsOf, mRet, mBin, mV, flat, mCallT, mCons, mNil, mCall, rds, rd, lenD, args, argOf, e, ixD, ha]
theorem pow_small {m : Nat} (h : m ≤ 4611686018427387904) : m < 2 ^ 4000 := Nat.lt_of_le_of_lt h (Nat.lt_of_lt_of_le (by decide : 4611686018427387904 < 2 ^ 63) (Nat.pow_le_pow_right (by decide) (by decide)))
end BA
end Mi
/-! The second family's bag as it is made. -/
namespace Mi
open PySem L2
namespace BA
def cellOf (z : Int) : Int := 2 * (if z < 0 then -z else z) + (if z < 0 then 1 else 0)
def cells (ns : List Int) : List Int := (cutI ns 63).map cellOf
theorem cells_le (ns : List Int) : (cells ns).length ≤ 63 := by
  unfold cells
  rw [List.length_map]
  exact cutI_le ns 63
theorem le63 {n : Nat} (h : n ≤ 63) : n ≤ sizeLine := Nat.le_trans h (by decide)
def mCell : ME Unit := mBin addD (mBin mulD (mC (.int 2)) (mCall absD (mCons (mV 3) mNil))) (mCall intD (mCons (mBin ltD (mV 3) (mC (.int 0))) mNil))
theorem cell_ok {z : Int} (hb : Builtin.Int.intBits z ≤ 1048576) {a b c : Option Val} : mCell [a, b, c, some (.fro (.int z))] () = some (.fro (.int (cellOf z)), ()) := by
  have b2 : Builtin.Int.intBits 2 ≤ 2 := bits_le (by decide)
  have em : mulI 2 (if z < 0 then -z else z) = some (.int (2 * (if z < 0 then -z else z))) := by
    unfold mulI
    rw [bits_abs, if_pos (by omega)]
  simp [mCell, mBin, mC, mCall, mCons, mNil, mV, rds, rd, absD, mulD, em, ltD, intD, addD, cellOf]
theorem tray1 (ns : List Int) (hb : ∀ z ∈ ns, Builtin.Int.intBits z ≤ 1048576) : mLc (T := Unit) (mItems (mKeep (mScrCut ns 63 (mV 0)))) (gN 3) mYes mCell [3] [some (.tray 0), none, none, none] () = some (.list (intL (cells ns)), ()) := by
  rw [mLc_map (ds := intL (cutI ns 63)) (t1 := ()) (fun d => match d with | .int z => .int (cellOf z) | d => d) rfl (by rw [intL_len]; exact le63 (cutI_le ns 63))]
  · rw [intL_map (k := cellOf) fun z => rfl]
    rfl
  · intro d hd
    obtain ⟨z, hz, rfl⟩ := intL_mem hd
    exact ⟨_, rfl, cell_ok (hb z (cutI_mem hz))⟩
def mStir : MS Unit := mSet 2 (mRv (mBin modD (mCall intD (mCons (mBin addD (mBin addD (mBin mulD (mV 2) (mC (.int 69621))) (mV 3)) (mC (.int 9))) mNil)) (mC (.int 4294967291))))
theorem stir_ok {a b : Option Val} {s z : Int} (h0 : 0 ≤ s) (h1 : s < 4294967291) : mStir [a, b, some (.fro (.int s)), some (.fro (.int z))] () = some (.nx [a, b, some (.fro (.int ((s * 69621 + z + 9) % 4294967291))), some (.fro (.int z))], ()) := by
  have em : mulD (.int s) (.int 69621) = some (.int (s * 69621)) := mulI_ok (a := 40) (b := 40) (small_nat h0 (by omega)) (by decide) (by decide)
  exact ev_set (ev_rv (ev_bin (ev_call (ev_cons (ev_bin (ev_bin (ev_bin (r1 := .fro (.int s)) rfl rfl rfl rfl em) (r2 := .fro (.int z)) rfl rfl rfl (z := .int (s * 69621 + z)) rfl) rfl rfl rfl (z := .int (s * 69621 + z + 9)) rfl) ev_nil) rfl (z := .int (s * 69621 + z + 9)) rfl) rfl rfl rfl (mod_ok (by decide))))
theorem tray2 (cs : List Int) (s0 : Int) (h0 : 0 ≤ s0) (h1 : s0 < 4294967291) : ∃ (s : Int) (x : Option Val), 0 ≤ s ∧ s < 4294967291 ∧ mFor (T := Unit) (mItems (mV 1)) (gN 3) mStir [some (.tray 0), some (.fro (.list (intL cs))), some (.fro (.int s0)), none] () = some (.nx [some (.tray 0), some (.fro (.list (intL cs))), some (.fro (.int s)), x], ()) := by
  obtain ⟨ρ', t', e, s, x, h0, h1, rfl⟩ := mFor_ind (T := Unit) (its := mItems (mV 1)) (g := gN 3) (body := mStir)
    (ρ := [some (.tray 0), some (.fro (.list (intL cs))), some (.fro (.int s0)), none]) (t := ()) (t1 := ()) (ds := intL cs) (fun _ ρ _ => ∃ (s : Int) (x : Option Val), 0 ≤ s ∧ s < 4294967291 ∧ ρ = [some (.tray 0), some (.fro (.list (intL cs))), some (.fro (.int s)), x]) rfl ⟨_, none, h0, h1, rfl⟩ (by
      rintro j d ρ t hj ⟨s, x, h0, h1, rfl⟩
      obtain ⟨z, hz, rfl⟩ := intL_mem (List.mem_of_getElem? hj)
      exact ⟨_, _, (), rfl, stir_ok h0 h1, _, some (.fro (.int z)), Int.emod_nonneg _ (by omega), Int.emod_lt_of_pos _ (by decide), rfl⟩)
  exact ⟨s, x, h0, h1, e⟩
def isFar (z : Int) : Bool := decide (1000000000000000 < z)
theorem tray3 (cs : List Int) (hl : cs.length ≤ 63) {a c d : Option Val} : mLc (T := Unit) (mItems (mV 1)) (gN 3) (mTest (mBin gtD (mV 3) (mBin powD (mC (.int 10)) (mC (.int 15))))) (mV 3) [3] [a, some (.fro (.list (intL cs))), c, d] () = some (.list (intL (cs.filter isFar)), ()) := by
  rw [mLc_filt (ds := intL cs) (t1 := ()) (fun d => match d with | .int z => isFar z | _ => false) id rfl (by rw [intL_len]; exact le63 hl)]
  · rw [List.map_id, intL_filter (k := isFar) fun z => rfl]
  · intro d hd
    obtain ⟨z, hz, rfl⟩ := intL_mem hd
    refine ⟨_, rfl, ?_, fun _ => rfl⟩
    simp [wipeR, mTest, mBin, mV, mC, rd, powD, gtD, isFar]
theorem bag (ns : List Int) (hl : ns.length ≤ 63) (hb : ∀ z ∈ ns, Builtin.Int.intBits z ≤ 1048576) : ∃ t0, f__law_bag ns = some (trD "far" t0) ∧ TrOk 0 t0 := by
  have em : mulI 13 (ns.length : Int) = some (.int (13 * (ns.length : Int))) := mulI_ok (a := 10) (b := 10) (by decide) (by rw [Int.natAbs_natCast]; omega) (by decide)
  have step1 : mPar (T := Unit) 1 2 (mConsV (mRv (mKeep (mLc (mItems (mKeep (mScrCut ns 63 (mV 0)))) (gN 3) mYes mCell [3]))) (mConsV (mRv (mBin addD (mC (.int 15029)) (mBin mulD (mC (.int 13)) (mScrLen ns (mV 0))))) mNilV))
      [some (.tray 0), none, none, none] () = some (.nx [some (.tray 0), some (.fro (.list (intL (cells ns)))), some (.fro (.int (15029 + 13 * (ns.length : Int)))), none], ()) := by
    simp [mPar, mConsV, mRv, mKeep, tray1 ns hb, mBin, mC, mScrLen, mV, rd, mulD, em, addD, mNilV]
  obtain ⟨s, x, h0, h1, step2⟩ := tray2 (cells ns) (15029 + 13 * (ns.length : Int)) (by omega) (by omega)
  refine ⟨⟨(cells ns).filter isFar, esOf s 0⟩, ?_, ⟨s, 0, rfl, h0, h1, Int.le_refl 0, Int.le_refl 0, Nat.le_trans (List.length_filter_le _ _) (cells_le ns)⟩⟩
  have e3 := tray3 (cells ns) (cells_le ns) (a := some (.tray 0)) (c := some (.fro (.int s))) (d := x)
  have nd : (([.inr "far", .inr "stirred", .inr "count"] : List Key).Nodup ∧ ([.inr "far", .inr "stirred", .inr "count"] : List Key).length ≤ 15) := by decide
  have step3 : mRet (T := Unit) (mKeep (mDict [.inr "far", .inr "stirred", .inr "count"] (mCons (mKeep (mLc (mItems (mV 1)) (gN 3) (mTest (mBin gtD (mV 3) (mBin powD (mC (.int 10)) (mC (.int 15))))) (mV 3) [3])) (mCons (mV 2) (mCons (mC (.int 0)) mNil)))))
      [some (.tray 0), some (.fro (.list (intL (cells ns)))), some (.fro (.int s)), x] () = some (.rt (trD "far" ⟨(cells ns).filter isFar, esOf s 0⟩), ()) := by
    exact ev_ret (ev_keep ((ev_dict (ds := [.list (intL ((cells ns).filter isFar)), .int s, .int 0]) (ev_cons (ev_keep e3) (ev_cons (r := .fro (.int s)) rfl (ev_cons (r := .fro (.int 0)) rfl ev_nil))) rfl ⟨rfl, nd⟩).trans rfl))
  unfold f__law_bag mFunS m__law_bag
  have e0 : (some (.tray 0) :: List.replicate (4 - 1) none : Env) = [some (.tray 0), none, none, none] := rfl
  rw [e0]
  have all : mSeq (T := Unit) (mPar 1 2 (mConsV (mRv (mKeep (mLc (mItems (mKeep (mScrCut ns 63 (mV 0)))) (gN 3) mYes mCell [3]))) (mConsV (mRv (mBin addD (mC (.int 15029)) (mBin mulD (mC (.int 13)) (mScrLen ns (mV 0))))) mNilV))) (mSeq (mFor (mItems (mV 1)) (gN 3) mStir)
    (mRet (mKeep (mDict [.inr "far", .inr "stirred", .inr "count"] (mCons (mKeep (mLc (mItems (mV 1)) (gN 3) (mTest (mBin gtD (mV 3) (mBin powD (mC (.int 10)) (mC (.int 15))))) (mV 3) [3])) (mCons (mV 2) (mCons (mC (.int 0)) mNil))))))) [some (.tray 0), none, none, none] () = some (.rt (trD "far" ⟨(cells ns).filter isFar, esOf s 0⟩), ()) := by
    rw [seq_nx step1, seq_nx step2, step3]
  unfold mCell mStir at all
  rw [all]
end BA
end Mi
namespace Mi.RA
open PySem L2

def m__masked : MS Unit :=
  (mRet (mCall sumD (mCons (mKeep (mLc (mRange1 (mCons (mV 1) mNil)) (gN 2) mYes (mBin shlD (mBin ixD (mV 0) (mBin modD (mV 2) (mCall lenD (mCons (mV 0) mNil)))) (mV 2)) [2])) mNil)))
def f__masked : List PyData → Option PyData := mFun 3 [true, true] m__masked

def m__prefixed : MS Unit :=
  (mSeq (mSet 2 (mRv (mC (.int 1))))
  (mSeq (whileN (mTest (mBin ltD (mV 2) (mV 1))) (mSeq (mAug 0 xorD (mBin shlD (mV 0) (mV 2)))
  (mAug 2 addI (mV 2))) 100)
  (mRet (mV 0))))
def f__prefixed : List PyData → Option PyData := mFun 3 [true, true] m__prefixed

def m__of_one : MS Unit :=
  (mSeq (mIfS (mTest (mBin eqD (mV 0) (mC (.str "not")))) (mRet (mUn invD (mV 1))) mSkip)
  (mSeq (mIfS (mTest (mBin eqD (mV 0) (mC (.str "twice")))) (mRet (mBin addD (mV 1) (mV 1))) mSkip)
  (mSeq (mIfS (mTest (mBin eqD (mV 0) (mC (.str "minus")))) (mRet (mUn negD (mV 1))) mSkip)
  (mRet (mCallP [true, true] f__prefixed (mCons (mV 1) (mCons (mV 2) mNil)))))))
def f__of_one : List PyData → Option PyData := mFun 3 [true, true, true] m__of_one

def m__of_two : MS Unit :=
  (mSeq (mIfS (mTest (mBin eqD (mV 0) (mC (.str "and")))) (mRet (mBin andD (mV 1) (mV 2))) mSkip)
  (mSeq (mIfS (mTest (mBin eqD (mV 0) (mC (.str "or")))) (mRet (mBin orD (mV 1) (mV 2))) mSkip)
  (mSeq (mIfS (mTest (mBin eqD (mV 0) (mC (.str "xor")))) (mRet (mBin xorD (mV 1) (mV 2))) mSkip)
  (mSeq (mIfS (mTest (mBin eqD (mV 0) (mC (.str "plus")))) (mRet (mBin addD (mV 1) (mV 2))) mSkip)
  (mRet (mBin subD (mV 1) (mV 2)))))))
def f__of_two : List PyData → Option PyData := mFun 3 [true, true, true] m__of_two

def m__whole : MS Unit :=
  (mSeq (mIfS (mTest (mBin eqD (mBin ixD (mV 0) (mC (.int 0))) (mC (.str "zero")))) (mRet (mC (.int 0))) mSkip)
  (mSeq (mIfS (mTest (mBin eqD (mBin ixD (mV 0) (mC (.int 0))) (mC (.str "ones")))) (mRet (mUn negD (mC (.int 1)))) mSkip)
  (mSeq (mIfS (mTest (mBin eqD (mBin ixD (mV 0) (mC (.int 0))) (mC (.str "mask")))) (mRet (mCallP [true, true] f__masked (mCons (mBin ixD (mV 0) (mC (.int 1))) (mCons (mV 1) mNil)))) mSkip)
  (mSeq (mIfS (mTest (mBin eqD (mCall lenD (mCons (mV 0) mNil)) (mC (.int 2)))) (mRet (mCallP [true, true, true] f__of_one (mCons (mBin ixD (mV 0) (mC (.int 0))) (mCons (mBin ixD (mV 2) (mBin ixD (mV 0) (mC (.int 1)))) (mCons (mV 1) mNil))))) mSkip)
  (mRet (mCallP [true, true, true] f__of_two (mCons (mBin ixD (mV 0) (mC (.int 0))) (mCons (mBin ixD (mV 2) (mBin ixD (mV 0) (mC (.int 1)))) (mCons (mBin ixD (mV 2) (mBin ixD (mV 0) (mC (.int 2)))) mNil)))))))))
def f__whole : List PyData → Option PyData := mFun 3 [true, true, true] m__whole

def m_values : MS Unit :=
  (mSeq (mAsg (mV 0) (gT (gs1 (gN 3) (gs1 (gN 4) gs0)) 2))
  (mSeq (mSet 5 (mRv (mBin subD (mBin shlD (mC (.int 1)) (mV 1)) (mC (.int 1)))))
  (mSeq (mSet 6 (mNew (mListL (mCons (mV 2) mNil))))
  (mSeq (mFor (mItems (mV 4)) (gN 7) (mApp 6 (mBin andD (mCallP [true, true, true] f__whole (mCons (mV 7) (mCons (mV 1) (mCons (mV 6) mNil)))) (mV 5))))
  (mRet (mCall tupleD (mCons (mSl (mV 6) (mPart (mV 3)) mNoP) mNil)))))))
def f_values : List PyData → Option PyData := mFun 8 [true, true, true] m_values

def m_result : MS Unit :=
  (mRet (mBin ixD (mCallP [true, true, true] f_values (mCons (mV 0) (mCons (mV 1) (mCons (mV 2) mNil)))) (mUn negD (mC (.int 1)))))
def f_result : List PyData → Option PyData := mFun 3 [true, true, true] m_result

end Mi.RA
namespace Mi
open PySem L2
section
variable {a b : Int} {x y : Str} {p : Bool} {xs ys : List PyData} {d : PyData}
theorem o_add : addD (.int a) (.int b) = some (.int (a + b)) := rfl
theorem o_addI : addI (.int a) (.int b) = some (.int (a + b)) := rfl
theorem o_sub : subD (.int a) (.int b) = some (.int (a - b)) := rfl
theorem o_lt : ltD (.int a) (.int b) = some (.bool (decide (a < b))) := rfl
theorem o_le : leD (.int a) (.int b) = some (.bool (decide (a ≤ b))) := rfl
theorem o_gt : gtD (.int a) (.int b) = some (.bool (decide (b < a))) := rfl
theorem o_ge : geD (.int a) (.int b) = some (.bool (decide (b ≤ a))) := rfl
theorem o_eqI : eqD (.int a) (.int b) = some (.bool (a == b)) := rfl
theorem o_neI : neD (.int a) (.int b) = some (.bool (!(a == b))) := rfl
theorem o_eqS : eqD (.str x) (.str y) = some (.bool (x == y)) := rfl
theorem o_neS : neD (.str x) (.str y) = some (.bool (!(x == y))) := rfl
theorem o_neg : negD (.int a) = some (.int (-a)) := rfl
theorem o_inv : invD (.int a) = some (.int (-a - 1)) := by
  show some (PyData.int (Builtin.bitNot a)) = _
  rw [show Builtin.bitNot a = -a - 1 from by unfold Builtin.bitNot; omega]
theorem o_and : andD (.int a) (.int b) = some (.int (Builtin.bitAnd a b)) := rfl
theorem o_or : orD (.int a) (.int b) = some (.int (Builtin.bitOr a b)) := rfl
theorem o_xor : xorD (.int a) (.int b) = some (.int (Builtin.bitXor a b)) := rfl
theorem o_int : intD [.int a] = some (.int a) := rfl
theorem o_intB : intD [.bool p] = some (.int (if p then 1 else 0)) := rfl
theorem o_abs : absD [.int a] = some (.int (if a < 0 then -a else a)) := rfl
theorem o_tupL : tupleD [.list xs] = some (.tuple xs) := rfl
theorem o_tupT : tupleD [.tuple xs] = some (.tuple xs) := rfl
theorem o_lenL : lenD [.list xs] = some (.int (xs.length : Nat)) := rfl
theorem o_lenT : lenD [.tuple xs] = some (.int (xs.length : Nat)) := rfl
theorem o_isN : isND d .none = some (.bool (isN d)) := rfl
theorem o_isNotN : isNotND d .none = some (.bool (!isN d)) := rfl
theorem o_ixA {x y : PyData} (h : ixD x y = some d) : ixD x y = some d := h
theorem o_ixL (h : atI xs a = some d) : ixD (.list xs) (.int a) = some d := h
theorem o_ixT (h : atI xs a = some d) : ixD (.tuple xs) (.int a) = some d := h
end
theorem o_inA {x y : PyData} {d : PyData} (h : inD x y = some d) : inD x y = some d := h
theorem o_notInA {x y : PyData} {d : PyData} (h : notInD x y = some d) : notInD x y = some d := h
theorem o_modA {x y : PyData} {d : PyData} (h : modD x y = some d) : modD x y = some d := h
theorem o_fdivA {x y : PyData} {d : PyData} (h : fdivD x y = some d) : fdivD x y = some d := h
theorem o_fdiv {i j : Int} (h : 0 < j) (h2 : j.natAbs.log2 < 9000) : fdivD (.int i) (.int j) = some (.int (i / j)) := if_pos ⟨h, h2⟩
theorem o_addL {xs ys : List PyData} (h : xs.length + ys.length ≤ sizeLine) : addD (.list xs) (.list ys) = some (.list (xs ++ ys)) := if_pos h
theorem o_addT {xs ys : List PyData} (h : xs.length + ys.length ≤ sizeLine) : addD (.tuple xs) (.tuple ys) = some (.tuple (xs ++ ys)) := if_pos h
theorem o_dixS {es : List (PyData × PyData)} {k : Str} {d : PyData} (h : dgetK es (.inr k) = some d) : ixD (.dict es) (.str k) = some d := h
theorem dict_ok {a : Nat} {ks : List Key} {P : Prop} (h : a = ks.length ∧ ks.Nodup ∧ ks.length ≤ 15) (q : P) : (a = ks.length ∧ ks.Nodup ∧ ks.length ≤ 15) ∧ P := ⟨h, q⟩
theorem lt_ok {n : Nat} {P : Prop} (h : n < sizeLine) (q : P) : n < sizeLine ∧ P := ⟨h, q⟩
theorem pk_ok {b : Bool} {P : Prop} (h : b = true) (q : P) : b = true ∧ P := ⟨h, q⟩
theorem len_ok {n : Nat} {P : Prop} (h : n ≤ sizeLine) (q : P) : n ≤ sizeLine ∧ P := ⟨h, q⟩
theorem par_ok {n m : Nat} {P : Prop} (h : n ≤ sizeLine ∧ n = m) (q : P) : (n ≤ sizeLine ∧ n = m) ∧ P := ⟨h, q⟩
theorem bits_le' {x : Int} {k : Nat} (h : x.natAbs < 2 ^ k) : Builtin.Int.intBits x ≤ k := by
  unfold Builtin.Int.intBits
  split
  · exact Nat.zero_le _
  · rename_i hx
    have hx : x ≠ 0 := by simpa using hx
    have : x.natAbs.log2 < k := (Nat.log2_lt (by omega)).mpr h
    omega
namespace RS
local macro_rules | `(tactic| walk_at "op") => `(tactic| with_reducible first
  | exact o_add | exact o_addI | exact o_sub | exact o_lt | exact o_le | exact o_gt | exact o_ge | exact o_eqI | exact o_neI | exact o_eqS | exact o_neS | exact o_neg | exact o_inv | exact o_and | exact o_or | exact o_xor
  | exact o_int | exact o_intB | exact o_abs | exact o_tupL | exact o_tupT | exact o_lenL | exact o_lenT | exact o_isN | exact o_isNotN)
local macro_rules | `(tactic| walk_at "ix") => `(tactic| ((with_reducible apply o_ixA); (first | apply o_ixL | apply o_ixT); focus rfl))
local macro_rules | `(tactic| walk_at "call") => `(tactic| fail)
local macro_rules | `(tactic| walk_at "s") => `(tactic| first
  | with_reducible first
    | refine s_seq ?_ | refine d_f (f_bin ?_) | refine d_f (f_c ?_) | refine s_set ?_ | refine v_rv ?_ | refine s_if ?_ | refine b_test ?_ | refine f_bin ?_ | refine f_c ?_ | refine s_ret ?_ | refine s_skip ?_
    | refine r_cons ?_ | refine r_nil ?_ | refine a_consT ?_ | refine a_nil ?_ | refine k_cons ?_ | refine k_nil ?_ | refine a_consF ?_
    | refine f_call ?_ | refine f_callP ?_ | refine f_keep ?_ | refine f_tup ?_ | refine f_if ?_ | refine f_andV ?_ | refine f_orV ?_ | refine f_notV ?_ | refine f_isi ?_ | refine f_sl ?_ | refine f_un ?_ | refine f_chain ?_
    | refine b_and ?_ | refine b_or ?_ | refine b_not ?_ | refine b_yes ?_
    | refine s_asg ?_ | refine s_app ?_ | refine s_par ?_ | refine s_pars ?_ | refine s_drop ?_ | refine s_retN ?_ | refine s_break ?_ | refine s_cont ?_ | refine s_end ?_
    | refine l_lst ?_ | refine l_dict ?_ | refine l_listL ?_ | refine o_no ?_ | refine o_part ?_ | refine i_enum ?_ | refine i_range1 ?_ | refine v_new ?_ | refine vs_nil ?_ | refine vs_cons ?_
  | ((with_reducible apply s_set_env); focus (dsimp only [List.set]; rfl))
  | ((with_reducible apply d_v); focus rfl)
  | ((with_reducible apply f_v); focus rfl)
  | ((with_reducible apply s_aug); focus rfl)
  | ((with_reducible apply f_callT); focus rfl)
  | ((with_reducible apply f_callPK); focus rfl; focus rfl)
  | ((with_reducible apply i_itemsB); focus rfl; focus rfl)
  | with_reducible first | refine d_f ?_ | refine i_items ?_
  | ((with_reducible refine if_yes ?_ ?_); focus rfl)
  | ((with_reducible refine if_no ?_ ?_); focus rfl)
  | ((with_reducible apply op_ok); focus (first | walk_at "op" | walk_at "ix"))
  | walk_at "call"
  | with_reducible first | refine ex_bool ?_ | refine ex_int ?_ | refine ex_itL ?_ | refine ex_itT ?_ | refine ex_rng ?_ | refine ex_two ?_ | refine ex_lstL ?_ | refine ex_lstT ?_
  | ((with_reducible apply ex_env); focus rfl)
  | ((with_reducible apply ex_own); focus rfl))
inductive U1 | not | twice | minus | pfx
inductive U2 | and | or | xor | plus | less
inductive Ins | zero | ones | un (o : U1) (a : Nat) | bin (o : U2) (a b : Nat) | mask (bits : List Nat)
def U1.s : U1 → Str
  | .not => "not" | .twice => "twice" | .minus => "minus" | .pfx => "prefix"
def U2.s : U2 → Str
  | .and => "and" | .or => "or" | .xor => "xor" | .plus => "plus" | .less => "less"
def insD : Ins → PyData
  | .zero => .tuple [.str "zero"]
  | .ones => .tuple [.str "ones"]
  | .un o a => .tuple [.str o.s, .int a]
  | .bin o a b => .tuple [.str o.s, .int a, .int b]
  | .mask bits => .tuple [.str "mask", .tuple (natsD bits)]
def two (o : U2) (a b : Int) : Int := match o with
  | .and => Builtin.bitAnd a b | .or => Builtin.bitOr a b | .xor => Builtin.bitXor a b | .plus => a + b | .less => a - b
theorem of_two (o : U2) (a b : Int) : RA.f__of_two [.str o.s, .int a, .int b] = some (.int (two o a b)) := by
  refine fun_ok ?_
  refine s_env (ρ' := [some (.bor (.str o.s)), some (.bor (.int a)), some (.bor (.int b))]) rfl ?_
  unfold RA.m__of_two
  cases o <;> (repeat (first | walk_at "s")) <;> rfl
/-! ### bits -/
theorem xor_and2 : ∀ (n a b : Nat), a ≤ n → (a ^^^ b) + 2 * (a &&& b) = a + b
  | 0, a, b, h => by
    have : a = 0 := by omega
    subst this; simp
  | n + 1, a, b, h => by
    by_cases ha : a = 0
    · subst ha; simp
    · have ih := xor_and2 n (a / 2) (b / 2) (by omega)
      have e1 := @Nat.xor_div_two a b
      have e2 := @Nat.and_div_two a b
      have e3 := @Nat.xor_mod_two_eq_one a b
      have e4 := @Nat.and_mod_two_eq_one a b
      rw [← e1, ← e2] at ih
      omega
theorem bxor_nat (a b : Nat) : Builtin.bitXor (a : Int) (b : Int) = ((a ^^^ b : Nat) : Int) := by
  have h := xor_and2 a a b (Nat.le_refl a)
  rw [PyProof.Rows.bitXor_and, PyProof.Rows.bitAnd_pp (by omega) (by omega), Int.toNat_natCast, Int.toNat_natCast]
  omega
theorem bor_nat (a b : Nat) : Builtin.bitOr (a : Int) (b : Int) = ((a ||| b : Nat) : Int) := by
  rw [Bits.bitOr_pp (by omega) (by omega), Int.toNat_natCast, Int.toNat_natCast]
theorem band_nat (a b : Nat) : Builtin.bitAnd (a : Int) (b : Int) = ((a &&& b : Nat) : Int) := by
  rw [PyProof.Rows.bitAnd_pp (by omega) (by omega), Int.toNat_natCast, Int.toNat_natCast]
/-- the xor of r bits, the bit i and those below it -/
def pre (a : Nat) (i : Nat) : Nat → Bool
  | 0 => false
  | r + 1 => pre a i r ^^ (decide (r ≤ i) && a.testBit (i - r))
theorem pre_add (a i r : Nat) : ∀ s : Nat, pre a i (r + s) = (pre a i r ^^ (decide (r ≤ i) && pre a (i - r) s))
  | 0 => by
    show pre a i r = _
    cases h : decide (r ≤ i) <;> simp [pre]
  | s + 1 => by
    show (pre a i (r + s) ^^ (decide (r + s ≤ i) && a.testBit (i - (r + s)))) = _
    rw [pre_add a i r s]
    show _ = (pre a i r ^^ (decide (r ≤ i) && (pre a (i - r) s ^^ (decide (s ≤ i - r) && a.testBit (i - r - s)))))
    by_cases h : r ≤ i
    · have e1 : decide (r + s ≤ i) = decide (s ≤ i - r) := by rw [decide_eq_decide]; omega
      have e2 : i - (r + s) = i - r - s := by omega
      rw [e1, e2]
      simp [h, Bool.xor_assoc]
    · have e1 : decide (r + s ≤ i) = false := decide_eq_false (by omega)
      rw [e1]
      simp [h]
/-- all below stays the same from so many on -/
theorem pre_all (a i : Nat) : ∀ s : Nat, pre a i (i + 1 + s) = pre a i (i + 1)
  | 0 => rfl
  | s + 1 => by
    show (pre a i (i + 1 + s) ^^ (decide (i + 1 + s ≤ i) && a.testBit (i - (i + 1 + s)))) = _
    rw [pre_all a i s, decide_eq_false (by omega)]
    simp
def ofBits (f : Nat → Bool) : Nat → Nat
  | 0 => 0
  | w + 1 => ofBits f w + (f w).toNat * 2 ^ w
theorem ofBits_lt (f : Nat → Bool) : ∀ w : Nat, ofBits f w < 2 ^ w
  | 0 => by simp [ofBits]
  | w + 1 => by
    have := ofBits_lt f w
    unfold ofBits
    rw [Nat.pow_succ]
    cases f w <;> simp <;> omega
theorem ofBits_bit (f : Nat → Bool) : ∀ (w i : Nat), (ofBits f w).testBit i = (decide (i < w) && f i)
  | 0, i => by simp [ofBits]
  | w + 1, i => by
    have h := ofBits_lt f w
    have ih := ofBits_bit f w i
    unfold ofBits
    by_cases hi : i < w
    · have e : (ofBits f w + (f w).toNat * 2 ^ w).testBit i = (ofBits f w).testBit i := by
        rw [Nat.add_comm, Nat.mul_comm, Nat.testBit_two_pow_mul_add _ h]
        simp [hi]
      rw [e, ih]
      simp [hi, Nat.lt_succ_of_lt hi]
    · have e : (ofBits f w + (f w).toNat * 2 ^ w).testBit i = (f w).toNat.testBit (i - w) := by
        rw [Nat.add_comm, Nat.mul_comm, Nat.testBit_two_pow_mul_add _ h]
        simp [hi]
      rw [e]
      by_cases h2 : i = w
      · subst h2
        simp
        cases f i <;> rfl
      · have e3 : ¬ i < w + 1 := by omega
        rw [decide_eq_false e3]
        have : i - w = (i - w - 1) + 1 := by omega
        rw [this]
        cases f w <;> simp [Nat.testBit_succ]
theorem ext_lt {a b w : Nat} (ha : a < 2 ^ w) (hb : b < 2 ^ w) (h : ∀ i, i < w → a.testBit i = b.testBit i) : a = b := by
  refine Nat.eq_of_testBit_eq fun i => ?_
  by_cases hi : i < w
  · exact h i hi
  · rw [Nat.testBit_lt_two_pow (Nat.lt_of_lt_of_le ha (Nat.pow_le_pow_right (by decide) (by omega))), Nat.testBit_lt_two_pow (Nat.lt_of_lt_of_le hb (Nat.pow_le_pow_right (by decide) (by omega)))]
def preW (w a : Nat) : Nat := ofBits (fun i => pre a i (i + 1)) w
/-- ints of at most so many bits -/
theorem shl_nat' {a j k : Nat} (h : a < 2 ^ k) (hk : k + j ≤ 100000000) : shlD (.int (a : Int)) (.int (j : Int)) = some (.int ((a * 2 ^ j : Nat) : Int)) := by
  have b1 : Builtin.Int.intBits (a : Int) ≤ k := bits_le' (by rw [Int.natAbs_natCast]; exact h)
  have : shlD (.int (a : Int)) (.int (j : Int)) = some (.int ((a : Int) * 2 ^ (j : Int).toNat)) := if_pos ⟨by omega, by omega⟩
  rw [this, Int.toNat_natCast]
  push_cast
  rfl
/-- what has the bits of the prefix below r + w -/
theorem prefixed {w a : Nat} (ha : a < 2 ^ w) (hw : w ≤ 100000) : ∃ x : Nat, RA.f__prefixed [.int a, .int w] = some (.int x) ∧ x % 2 ^ w = preW w a := by
  refine fun_okP (P := fun d => ∃ x : Nat, d = .int x ∧ x % 2 ^ w = preW w a) ?_ |>.elim fun d h => by
    obtain ⟨e, x, rfl, hx⟩ := h
    exact ⟨x, e, hx⟩
  refine s_env (ρ' := [some (.bor (.int a)), some (.bor (.int w)), none]) rfl ?_
  unfold RA.m__prefixed
  iterate 5 (walk_at "s")
  refine s_while (fun k ρ _ => ∃ (x r : Nat) (v : Val), ρ = [some v, some (.bor (.int w)), some (.fro (.int r))] ∧ (v = .bor (.int x) ∨ v = .fro (.int x)) ∧ (∀ i, x.testBit i = pre a i r) ∧ 1 ≤ r ∧ x < 2 ^ (w + r) ∧ r ≤ 2 * w + 1 ∧ 2 ^ 100 ≤ 2 ^ k * r) ⟨a, 1, _, rfl, .inl rfl, fun i => ?_, Nat.le_refl 1, ?_, by omega, by omega⟩ ?_
  · simp [pre]
  · exact Nat.lt_of_lt_of_le ha (Nat.pow_le_pow_right (by decide) (by omega))
  · rintro k ρ t ⟨x, r, v, rfl, hv, hx, h1, h2, h3, h4⟩
    have hd : dat [some v, some (.bor (.int w)), some (.fro (.int r))] 0 = some (.int x) := by rcases hv with rfl | rfl <;> rfl
    have hc : cur [some v, some (.bor (.int w)), some (.fro (.int r))] 0 = some (.int x) := by rcases hv with rfl | rfl <;> rfl
    repeat (first | walk_at "s")
    refine if_both (fun hlt => ?_) (fun hlt => ?_)
    · have hlt : (r : Int) < w := of_decide_eq_true hlt
      cases k with
      | zero => omega
      | succ k =>
        refine ⟨k, rfl, ?_⟩
        refine s_seq (s_aug hc (d_f (f_bin (d_v hd (d_v rfl (op_ok (shl_nat' (k := w + r) h2 (by omega)) (op_ok o_xor ?_)))))))
        repeat (first | walk_at "s")
        refine ⟨x ^^^ (x * 2 ^ r), r + r, .fro (.int (x ^^^ (x * 2 ^ r) : Nat)), ?_, .inr rfl, fun i => ?_, by omega, ?_, by omega, ?_⟩
        · rw [bxor_nat]
          rfl
        · rw [Nat.testBit_xor, Nat.testBit_mul_two_pow, pre_add, hx, hx]
        · refine Nat.xor_lt_two_pow (Nat.lt_of_lt_of_le h2 (Nat.pow_le_pow_right (by decide) (by omega))) ?_
          rw [show w + (r + r) = w + r + r from by omega, Nat.pow_add 2 (w + r) r]
          exact Nat.mul_lt_mul_of_pos_right h2 (Nat.two_pow_pos r)
        · have e2 : 2 ^ (k + 1) = 2 ^ k * 2 := Nat.pow_succ ..
          rw [e2] at h4
          have : 2 ^ k * (r + r) = 2 ^ k * 2 * r := by rw [Nat.mul_assoc, Nat.two_mul]
          omega
    · have hlt : ¬ (r : Int) < w := of_decide_eq_false hlt
      refine ⟨?_, ?_⟩
      · cases k with
        | zero => omega
        | succ k => omega
      · refine s_ret ?_
        refine f_v hc ⟨x, rfl, ?_⟩
        refine ext_lt (Nat.mod_lt _ (Nat.two_pow_pos w)) (ofBits_lt _ w) fun i hi => ?_
        unfold preW
        rw [Nat.testBit_mod_two_pow, ofBits_bit, hx, show r = i + 1 + (r - i - 1) from by omega, pre_all]
end RS
end Mi
/-! What programs tell at a width. -/
namespace Mi
open PySem L2
theorem natsD_len (xs : List Nat) : (natsD xs).length = xs.length := List.length_map _
theorem natsD_at {xs : List Nat} {i : Nat} {d : PyData} (h : (natsD xs)[i]? = some d) : ∃ n, xs[i]? = some n ∧ d = .int (n : Int) := by
  unfold natsD at h
  rw [List.getElem?_map] at h
  obtain ⟨n, hn, rfl⟩ := Option.map_eq_some_iff.mp h
  exact ⟨n, hn, rfl⟩
theorem natsD_get {xs : List Nat} {i n : Nat} (h : xs[i]? = some n) : (natsD xs)[i]? = some (.int (n : Int)) := by
  unfold natsD
  rw [List.getElem?_map, h]
  rfl
theorem natsD_snoc (xs : List Nat) (n : Nat) : natsD xs ++ [.int (n : Int)] = natsD (xs ++ [n]) := by
  unfold natsD
  rw [List.map_append]
  rfl
theorem atI_nats {xs : List Nat} {i n : Nat} (h : xs[i]? = some n) : atI (natsD xs) (i : Int) = some (.int (n : Int)) := atI_nat (natsD_get h)
theorem lt_at {α : Type} {xs : List α} {i : Nat} {x : α} (h : xs[i]? = some x) : i < xs.length := (List.getElem?_eq_some_iff.mp h).1
theorem take_at {α : Type} {xs : List α} {i : Nat} {x : α} (h : xs[i]? = some x) : xs.take (i + 1) = xs.take i ++ [x] := by
  rw [List.take_succ, h]
  rfl
theorem range_at {n i k : Nat} (h : (List.range n)[i]? = some k) : k = i ∧ i < n := by
  have hl := lt_at h
  rw [List.length_range] at hl
  rw [List.getElem?_range hl] at h
  cases h
  exact ⟨rfl, hl⟩
theorem intsOf_nats : ∀ xs : List Nat, intsOf (natsD xs) = some (xs.map fun (n : Nat) => (n : Int))
  | [] => rfl
  | x :: r => by
    show (intsOf (natsD r)).map _ = _
    rw [intsOf_nats r]
    rfl
theorem sum_nats : ∀ xs : List Nat, (xs.map fun (n : Nat) => (n : Int)).sum = ((xs.sum : Nat) : Int)
  | [] => rfl
  | x :: r => by
    rw [List.map_cons, List.sum_cons, List.sum_cons, sum_nats r]
    push_cast
    rfl
theorem o_sum (xs : List Nat) : sumD [.list (natsD xs)] = some (.int ((xs.sum : Nat) : Int)) := by
  show (intsOf (natsD xs)).map _ = _
  rw [intsOf_nats, Option.map_some, sum_nats]
theorem mod_nat {a b : Nat} (h : 0 < b) : modD (.int (a : Int)) (.int (b : Int)) = some (.int ((a % b : Nat) : Int)) := by
  rw [mod_ok (by omega)]
  push_cast
  rfl
theorem cutL_map {α β : Type} (f : α → β) (xs : List α) (lo hi : Option Int) : cutL (xs.map f) lo hi = (cutL xs lo hi).map f := by
  unfold cutL
  rw [List.length_map, ← List.map_drop, ← List.map_take]
theorem cutL_take {α : Type} (xs : List α) (n : Nat) : cutL xs none (some (n : Int)) = xs.take n := by
  unfold cutL
  rw [HT.sIx_none, HT.sIx_nat, List.drop_zero, Nat.sub_zero]
  by_cases h : n ≤ xs.length
  · rw [Nat.min_eq_left h]
  · rw [Nat.min_eq_right (by omega), List.take_length, List.take_of_length_le (by omega)]
theorem cutL_drop {α : Type} (xs : List α) (n : Nat) : cutL xs (some (n : Int)) none = xs.drop n := by
  unfold cutL
  rw [HT.sIx_none, HT.sIx_nat]
  by_cases h : n ≤ xs.length
  · rw [Nat.min_eq_left h, List.take_of_length_le (by rw [List.length_drop]; omega)]
  · rw [Nat.min_eq_right (by omega), List.drop_eq_nil_of_le (Nat.le_refl _), List.drop_eq_nil_of_le (by omega), List.take_nil]
theorem take_nats (xs : List Nat) (n : Nat) : sliceD (.list (natsD xs)) none (some (n : Int)) = some (.list (natsD (xs.take n))) := by
  show some (PyData.list (cutL (natsD xs) none (some (n : Int)))) = _
  unfold natsD
  rw [cutL_map, cutL_take]
theorem drop_nats (xs : List Nat) (n : Nat) : sliceD (.list (natsD xs)) (some (n : Int)) none = some (.list (natsD (xs.drop n))) := by
  show some (PyData.list (cutL (natsD xs) (some (n : Int)) none)) = _
  unfold natsD
  rw [cutL_map, cutL_drop]
theorem top_ok {width : Nat} (h : width ≤ 1000000) : shlD (.int 1) (.int (width : Int)) = some (.int ((2 ^ width : Nat) : Int)) := by
  have := RS.shl_nat' (a := 1) (j := width) (k := 1) (by decide) (by omega)
  rw [Nat.one_mul] at this
  exact this
/-- a list comprehension over numbers below n that only reckons -/
theorem l_lc_map {T : Type} {ρ : Env} {t : T} {Q : PyData → T → Prop} {its : Env → T → Option (List PyData × T)} {g : PyData → Env → Option Env} {f : ME T} {vs : List Nat} (h : PyData → PyData)
    (hi : Eg its ρ t fun ds t1 => ds.length ≤ sizeLine ∧ (∀ d ∈ ds, ∃ ρ1, g d (wipeR ρ vs) = some ρ1 ∧ Ef f ρ1 t1 fun x t2 => x = h d ∧ t2 = t1) ∧ Q (.list (ds.map h)) t1) : Eg (mLc its g mYes f vs) ρ t Q := by
  obtain ⟨ds, t1, e, hz, hs, q⟩ := hi
  exact ⟨_, t1, mLc_map h e hz fun d hd => by obtain ⟨ρ1, e1, ef⟩ := hs d hd; exact ⟨ρ1, e1, ef.out⟩, q⟩
namespace RS
local macro_rules | `(tactic| walk_at "op") => `(tactic| with_reducible first
  | exact o_add | exact o_addI | exact o_sub | exact o_lt | exact o_le | exact o_gt | exact o_ge | exact o_eqI | exact o_neI | exact o_eqS | exact o_neS | exact o_neg | exact o_inv | exact o_and | exact o_or | exact o_xor
  | exact o_int | exact o_intB | exact o_abs | exact o_tupL | exact o_tupT | exact o_lenL | exact o_lenT | exact o_isN | exact o_isNotN)
local macro_rules | `(tactic| walk_at "ix") => `(tactic| ((with_reducible apply o_ixA); (first | apply o_ixL | apply o_ixT); focus rfl))
local macro_rules | `(tactic| walk_at "call") => `(tactic| fail)
local macro_rules | `(tactic| walk_at "s") => `(tactic| first
  | with_reducible first
    | refine s_seq ?_ | refine d_f (f_bin ?_) | refine d_f (f_c ?_) | refine s_set ?_ | refine v_rv ?_ | refine s_if ?_ | refine b_test ?_ | refine f_bin ?_ | refine f_c ?_ | refine s_ret ?_ | refine s_skip ?_
    | refine r_cons ?_ | refine r_nil ?_ | refine a_consT ?_ | refine a_nil ?_ | refine k_cons ?_ | refine k_nil ?_ | refine a_consF ?_
    | refine f_call ?_ | refine f_callP ?_ | refine f_keep ?_ | refine f_tup ?_ | refine f_if ?_ | refine f_andV ?_ | refine f_orV ?_ | refine f_notV ?_ | refine f_isi ?_ | refine f_sl ?_ | refine f_un ?_ | refine f_chain ?_
    | refine b_and ?_ | refine b_or ?_ | refine b_not ?_ | refine b_yes ?_
    | refine s_asg ?_ | refine s_app ?_ | refine s_par ?_ | refine s_pars ?_ | refine s_drop ?_ | refine s_retN ?_ | refine s_break ?_ | refine s_cont ?_ | refine s_end ?_
    | refine l_lst ?_ | refine l_dict ?_ | refine l_listL ?_ | refine o_no ?_ | refine o_part ?_ | refine i_enum ?_ | refine i_range1 ?_ | refine v_new ?_ | refine vs_nil ?_ | refine vs_cons ?_
  | ((with_reducible apply s_set_env); focus (dsimp only [List.set]; rfl))
  | ((with_reducible apply d_v); focus rfl)
  | ((with_reducible apply f_v); focus rfl)
  | ((with_reducible apply s_aug); focus rfl)
  | ((with_reducible apply f_callT); focus rfl)
  | ((with_reducible apply f_callPK); focus rfl; focus rfl)
  | ((with_reducible apply i_itemsB); focus rfl; focus rfl)
  | with_reducible first | refine d_f ?_ | refine i_items ?_
  | ((with_reducible refine if_yes ?_ ?_); focus rfl)
  | ((with_reducible refine if_no ?_ ?_); focus rfl)
  | ((with_reducible apply op_ok); focus (first | walk_at "op" | walk_at "ix"))
  | walk_at "call"
  | with_reducible first | refine ex_bool ?_ | refine ex_int ?_ | refine ex_itL ?_ | refine ex_itT ?_ | refine ex_rng ?_ | refine ex_two ?_ | refine ex_lstL ?_ | refine ex_lstT ?_
  | ((with_reducible apply ex_env); focus rfl)
  | ((with_reducible apply ex_own); focus rfl))
def maskW (w : Nat) (bits : List Nat) : Nat := ofBits (fun i => bits.getD (i % bits.length) 0 == 1) w
theorem mask_sum (bits : List Nat) (hb : ∀ b ∈ bits, b ≤ 1) : ∀ w : Nat, ((List.range w).map fun i => bits.getD (i % bits.length) 0 * 2 ^ i).sum = maskW w bits
  | 0 => rfl
  | w + 1 => by
    rw [List.range_succ, List.map_append, List.sum_append, mask_sum bits hb w]
    show maskW w bits + (bits.getD (w % bits.length) 0 * 2 ^ w + 0) = ofBits _ w + (bits.getD (w % bits.length) 0 == 1).toNat * 2 ^ w
    have : bits.getD (w % bits.length) 0 ≤ 1 := by
      rw [List.getD_eq_getElem?_getD]
      cases h : bits[w % bits.length]? with
      | none => exact Nat.zero_le _
      | some x => exact hb x (List.mem_of_getElem? h)
    have h2 : bits.getD (w % bits.length) 0 = (bits.getD (w % bits.length) 0 == 1).toNat := by
      generalize bits.getD (w % bits.length) 0 = y at this
      rcases (by omega : y = 0 ∨ y = 1) with rfl | rfl <;> rfl
    rw [← h2]
    rfl
def mskD (bits : List Nat) : PyData → PyData
  | .int i => .int ((bits.getD (i.toNat % bits.length) 0 * 2 ^ i.toNat : Nat) : Int)
  | d => d
theorem masked {w : Nat} {bits : List Nat} (hb : ∀ b ∈ bits, b ≤ 1) (h0 : bits ≠ []) (hw : w ≤ 100000) : RA.f__masked [.tuple (natsD bits), .int w] = some (.int (maskW w bits : Nat)) := by
  refine fun_ok ?_
  refine s_env (ρ' := [some (.bor (.tuple (natsD bits))), some (.bor (.int w)), none]) rfl ?_
  unfold RA.m__masked
  have hp : 0 < bits.length := List.length_pos_iff.mpr h0
  repeat (first | walk_at "s")
  refine l_lc_map (mskD bits) ?_
  repeat (first | walk_at "s")
  refine ⟨by omega, ?_⟩
  rw [Int.toNat_natCast]
  refine ⟨?_, ?_, ?_⟩
  · rw [natsD_len, List.length_range]
    exact Nat.le_trans (show w ≤ 1000000 by omega) (by decide)
  · intro d hd
    obtain ⟨i, hi⟩ := List.getElem?_of_mem hd
    obtain ⟨n, hn, rfl⟩ := natsD_at hi
    refine ⟨[some (.bor (.tuple (natsD bits))), some (.bor (.int w)), some (.fro (.int n))], rfl, ?_⟩
    repeat (first | walk_at "s")
    rw [natsD_len]
    refine op_ok (mod_nat hp) ?_
    have hlt : n % bits.length < bits.length := Nat.mod_lt _ hp
    have e := List.getElem?_eq_getElem hlt
    have hb1 := hb _ (List.mem_of_getElem? e)
    refine op_ok (o_ixT (atI_nats e)) ?_
    have hn2 : n < w := by have := range_at hn; omega
    repeat (first | walk_at "s")
    refine op_ok (shl_nat' (k := 1) (by omega) (by omega)) ⟨?_, rfl⟩
    show _ = PyData.int ((bits.getD ((n : Int).toNat % bits.length) 0 * 2 ^ (n : Int).toNat : Nat) : Int)
    rw [Int.toNat_natCast, List.getD_eq_getElem?_getD, e]
    rfl
  · have e : (natsD (List.range w)).map (mskD bits) = natsD ((List.range w).map fun i => bits.getD (i % bits.length) 0 * 2 ^ i) := by
      unfold natsD
      rw [List.map_map, List.map_map]
      rfl
    rw [e]
    repeat (first | walk_at "s")
    refine op_ok (o_sum _) ?_
    rw [mask_sum bits hb]
/-- what a row tells, from what is known -/
def val (w : Nat) (ks : List Nat) : Ins → Nat
  | .zero => 0
  | .ones => 2 ^ w - 1
  | .un .not a => 2 ^ w - 1 - ks.getD a 0
  | .un .twice a => 2 * ks.getD a 0 % 2 ^ w
  | .un .minus a => (2 ^ w - ks.getD a 0) % 2 ^ w
  | .un .pfx a => preW w (ks.getD a 0)
  | .bin .and a b => ks.getD a 0 &&& ks.getD b 0
  | .bin .or a b => ks.getD a 0 ||| ks.getD b 0
  | .bin .xor a b => ks.getD a 0 ^^^ ks.getD b 0
  | .bin .plus a b => (ks.getD a 0 + ks.getD b 0) % 2 ^ w
  | .bin .less a b => (2 ^ w + ks.getD a 0 - ks.getD b 0) % 2 ^ w
  | .mask bits => maskW w bits
/-- a row that may stand where so many words are known -/
def Ins.ok (n : Nat) : Ins → Prop
  | .zero => True
  | .ones => True
  | .un _ a => a < n
  | .bin _ a b => a < n ∧ b < n
  | .mask bits => bits ≠ [] ∧ bits.length ≤ 24 ∧ ∀ b ∈ bits, b ≤ 1
def OkW (w : Nat) (ks : List Nat) : Prop := ∀ k ∈ ks, k < 2 ^ w
theorem OkW.at {w : Nat} {ks : List Nat} (h : OkW w ks) (i : Nat) : ks.getD i 0 < 2 ^ w := by
  rw [List.getD_eq_getElem?_getD]
  cases e : ks[i]? with
  | none => exact Nat.two_pow_pos w
  | some x => exact h x (List.mem_of_getElem? e)
theorem val_lt {w : Nat} {ks : List Nat} (h : OkW w ks) (I : Ins) : val w ks I < 2 ^ w := by
  have hp : 0 < 2 ^ w := Nat.two_pow_pos w
  cases I with
  | zero => exact hp
  | ones => show 2 ^ w - 1 < _; omega
  | un o a =>
    cases o with
    | not => show 2 ^ w - 1 - _ < _; omega
    | twice => exact Nat.mod_lt _ hp
    | minus => exact Nat.mod_lt _ hp
    | pfx => exact ofBits_lt _ _
  | bin o a b =>
    cases o with
    | and => exact Nat.lt_of_le_of_lt Nat.and_le_left (h.at a)
    | or => exact Nat.or_lt_two_pow (h.at a) (h.at b)
    | xor => exact Nat.xor_lt_two_pow (h.at a) (h.at b)
    | plus => exact Nat.mod_lt _ hp
    | less => exact Nat.mod_lt _ hp
  | mask bits => exact ofBits_lt _ _
theorem at_known {ks : List Nat} {a : Nat} (h : a < ks.length) : ks[a]? = some (ks.getD a 0) := by
  rw [List.getD_eq_getElem?_getD, List.getElem?_eq_getElem h]
  rfl
theorem neg_emod {a m : Nat} (h : a ≤ m) : (-(a : Int)) % (m : Int) = (((m - a) % m : Nat) : Int) := by
  rw [← Int.add_emod_right]
  push_cast [Int.natCast_sub h]
  congr 1
  omega
theorem nat_emod (a m : Nat) : (a : Int) % (m : Int) = ((a % m : Nat) : Int) := by push_cast; rfl
theorem of_one {w x : Nat} (o : U1) (hx : x < 2 ^ w) (hw : w ≤ 100000) : ∃ z : Int, RA.f__of_one [.str o.s, .int x, .int w] = some (.int z) ∧ z % ((2 ^ w : Nat) : Int) = (val w [x] (.un o 0) : Nat) := by
  have hp : 0 < 2 ^ w := Nat.two_pow_pos w
  refine (fun_okP (P := fun d => ∃ z : Int, d = .int z ∧ z % ((2 ^ w : Nat) : Int) = (val w [x] (.un o 0) : Nat)) ?_).elim fun d h => by
    obtain ⟨e, z, rfl, hz⟩ := h
    exact ⟨z, e, hz⟩
  unfold RA.m__of_one
  refine s_env (ρ' := [some (.bor (.str o.s)), some (.bor (.int x)), some (.bor (.int w))]) rfl ?_
  cases o <;> repeat (first | walk_at "s")
  · show (-(x : Int) - 1) % _ = ((2 ^ w - 1 - x : Nat) : Int)
    have e : -(x : Int) - 1 = -((x + 1 : Nat) : Int) := by push_cast; omega
    rw [e, neg_emod (by omega), Nat.mod_eq_of_lt (by omega)]
    congr 1
    omega
  · show ((x : Int) + x) % _ = ((2 * x % 2 ^ w : Nat) : Int)
    have e : (x : Int) + x = ((2 * x : Nat) : Int) := by push_cast; omega
    rw [e, nat_emod]
  · exact neg_emod (by omega)
  · obtain ⟨y, ey, hy⟩ := prefixed hx hw
    refine op_ok ey (ex_int ?_)
    rw [nat_emod, hy]
    rfl
theorem two_ok {w x y : Nat} (o : U2) (hx : x < 2 ^ w) (hy : y < 2 ^ w) : two o x y % ((2 ^ w : Nat) : Int) = (val w [x, y] (.bin o 0 1) : Nat) := by
  have hp : 0 < 2 ^ w := Nat.two_pow_pos w
  cases o with
  | and =>
    show Builtin.bitAnd (x : Int) (y : Int) % _ = ((x &&& y : Nat) : Int)
    rw [band_nat, nat_emod, Nat.mod_eq_of_lt (Nat.lt_of_le_of_lt Nat.and_le_left hx)]
  | or =>
    show Builtin.bitOr (x : Int) (y : Int) % _ = ((x ||| y : Nat) : Int)
    rw [bor_nat, nat_emod, Nat.mod_eq_of_lt (Nat.or_lt_two_pow hx hy)]
  | xor =>
    show Builtin.bitXor (x : Int) (y : Int) % _ = ((x ^^^ y : Nat) : Int)
    rw [bxor_nat, nat_emod, Nat.mod_eq_of_lt (Nat.xor_lt_two_pow hx hy)]
  | plus =>
    show ((x : Int) + y) % _ = (((x + y) % 2 ^ w : Nat) : Int)
    rw [← nat_emod]
    push_cast
    rfl
  | less =>
    show ((x : Int) - y) % _ = (((2 ^ w + x - y) % 2 ^ w : Nat) : Int)
    rw [← nat_emod, Int.natCast_sub (by omega), ← Int.add_emod_left]
    congr 1
    push_cast
    omega
theorem whole {w : Nat} {ks : List Nat} {I : Ins} (hI : I.ok ks.length) (hk : OkW w ks) (hw : w ≤ 100000) : ∃ z : Int, RA.f__whole [insD I, .int w, .list (natsD ks)] = some (.int z) ∧ z % ((2 ^ w : Nat) : Int) = (val w ks I : Nat) := by
  have hp : 0 < 2 ^ w := Nat.two_pow_pos w
  have sm : ∀ x : Nat, x < 2 ^ w → (x : Int) % ((2 ^ w : Nat) : Int) = (x : Int) := fun x h => Int.emod_eq_of_lt (by omega) (by omega)
  refine (fun_okP (P := fun d => ∃ z : Int, d = .int z ∧ z % ((2 ^ w : Nat) : Int) = (val w ks I : Nat)) ?_).elim fun d h => by
    obtain ⟨e, z, rfl, hz⟩ := h
    exact ⟨z, e, hz⟩
  unfold RA.m__whole
  cases I with
  | zero =>
    refine s_env (ρ' := [some (.bor (.tuple [.str "zero"])), some (.bor (.int w)), some (.bor (.list (natsD ks)))]) rfl ?_
    repeat (first | walk_at "s")
    exact sm 0 hp
  | ones =>
    refine s_env (ρ' := [some (.bor (.tuple [.str "ones"])), some (.bor (.int w)), some (.bor (.list (natsD ks)))]) rfl ?_
    repeat (first | walk_at "s")
    have := neg_emod (a := 1) (m := 2 ^ w) (by omega)
    rw [Nat.mod_eq_of_lt (by omega)] at this
    exact this
  | mask bits =>
    refine s_env (ρ' := [some (.bor (.tuple [.str "mask", .tuple (natsD bits)])), some (.bor (.int w)), some (.bor (.list (natsD ks)))]) rfl ?_
    repeat (first | walk_at "s")
    refine op_ok (masked hI.2.2 hI.1 hw) ?_
    refine ex_int ?_
    exact sm _ (ofBits_lt _ _)
  | un o a =>
    have ea := at_known hI
    have la := hk.at a
    refine s_env (ρ' := [some (.bor (.tuple [.str o.s, .int a])), some (.bor (.int w)), some (.bor (.list (natsD ks)))]) rfl ?_
    have hv : val w ks (.un o a) = val w [ks.getD a 0] (.un o 0) := by cases o <;> rfl
    rw [hv]
    generalize ks.getD a 0 = x at ea la
    have ei := atI_nats ea
    obtain ⟨z, ez, hz⟩ := of_one o la hw
    generalize val w [x] (.un o 0) = r at hz
    cases o <;> repeat (first | with_reducible (first | refine op_ok (o_ixL ei) ?_) | walk_at "s")
    all_goals exact op_ok ez (ex_int hz)
  | bin o a b =>
    have ea := at_known hI.1
    have eb := at_known hI.2
    have la := hk.at a
    have lb := hk.at b
    refine s_env (ρ' := [some (.bor (.tuple [.str o.s, .int a, .int b])), some (.bor (.int w)), some (.bor (.list (natsD ks)))]) rfl ?_
    have hv : val w ks (.bin o a b) = val w [ks.getD a 0, ks.getD b 0] (.bin o 0 1) := by cases o <;> rfl
    rw [hv]
    generalize ks.getD a 0 = x at ea la
    generalize ks.getD b 0 = y at eb lb
    have ei := atI_nats ea
    have ej := atI_nats eb
    have hz := two_ok o la lb
    have ez := of_two o x y
    generalize val w [x, y] (.bin o 0 1) = r at hz
    generalize two o x y = z at hz ez
    cases o <;> repeat (first | with_reducible (first | refine op_ok (o_ixL ei) ?_ | refine op_ok (o_ixL ej) ?_) | walk_at "s")
    all_goals exact op_ok ez (ex_int hz)
end RS
end Mi
/-! What programs tell at a width: all rows. -/
namespace Mi
open PySem L2
namespace RS
local macro_rules | `(tactic| walk_at "op") => `(tactic| with_reducible first
  | exact o_add | exact o_addI | exact o_sub | exact o_lt | exact o_le | exact o_gt | exact o_ge | exact o_eqI | exact o_neI | exact o_eqS | exact o_neS | exact o_neg | exact o_inv | exact o_and | exact o_or | exact o_xor
  | exact o_int | exact o_intB | exact o_abs | exact o_tupL | exact o_tupT | exact o_lenL | exact o_lenT | exact o_isN | exact o_isNotN)
local macro_rules | `(tactic| walk_at "ix") => `(tactic| ((with_reducible apply o_ixA); (first | apply o_ixL | apply o_ixT); focus rfl))
local macro_rules | `(tactic| walk_at "call") => `(tactic| fail)
local macro_rules | `(tactic| walk_at "s") => `(tactic| first
  | with_reducible first
    | refine s_seq ?_ | refine d_f (f_bin ?_) | refine d_f (f_c ?_) | refine s_set ?_ | refine v_rv ?_ | refine s_if ?_ | refine b_test ?_ | refine f_bin ?_ | refine f_c ?_ | refine s_ret ?_ | refine s_skip ?_
    | refine r_cons ?_ | refine r_nil ?_ | refine a_consT ?_ | refine a_nil ?_ | refine k_cons ?_ | refine k_nil ?_ | refine a_consF ?_
    | refine f_call ?_ | refine f_callP ?_ | refine f_keep ?_ | refine f_tup ?_ | refine f_if ?_ | refine f_andV ?_ | refine f_orV ?_ | refine f_notV ?_ | refine f_isi ?_ | refine f_sl ?_ | refine f_un ?_ | refine f_chain ?_
    | refine b_and ?_ | refine b_or ?_ | refine b_not ?_ | refine b_yes ?_
    | refine s_asg ?_ | refine s_app ?_ | refine s_par ?_ | refine s_pars ?_ | refine s_drop ?_ | refine s_retN ?_ | refine s_break ?_ | refine s_cont ?_ | refine s_end ?_
    | refine l_lst ?_ | refine l_dict ?_ | refine l_listL ?_ | refine o_no ?_ | refine o_part ?_ | refine i_enum ?_ | refine i_range1 ?_ | refine v_new ?_ | refine vs_nil ?_ | refine vs_cons ?_
  | ((with_reducible apply s_set_env); focus (dsimp only [List.set]; rfl))
  | ((with_reducible apply d_v); focus rfl)
  | ((with_reducible apply f_v); focus rfl)
  | ((with_reducible apply s_aug); focus rfl)
  | ((with_reducible apply f_callT); focus rfl)
  | ((with_reducible apply f_callPK); focus rfl; focus rfl)
  | ((with_reducible apply i_itemsB); focus rfl; focus rfl)
  | with_reducible first | refine d_f ?_ | refine i_items ?_
  | ((with_reducible refine if_yes ?_ ?_); focus rfl)
  | ((with_reducible refine if_no ?_ ?_); focus rfl)
  | ((with_reducible apply op_ok); focus (first | walk_at "op" | walk_at "ix"))
  | walk_at "call"
  | with_reducible first | refine ex_bool ?_ | refine ex_int ?_ | refine ex_itL ?_ | refine ex_itT ?_ | refine ex_rng ?_ | refine ex_two ?_ | refine ex_lstL ?_ | refine ex_lstT ?_
  | ((with_reducible apply ex_env); focus rfl)
  | ((with_reducible apply ex_own); focus rfl))
abbrev progD (many : Nat) (rows : List Ins) : PyData := .tuple [.int many, .tuple (rows.map insD)]
def runAll (w : Nat) (ks : List Nat) (rows : List Ins) : List Nat := rows.foldl (fun ks I => ks ++ [val w ks I]) ks
structure OkP (many : Nat) (rows : List Ins) : Prop where
  ok : ∀ (j : Nat) (I : Ins), rows[j]? = some I → I.ok (many + j)
  pos : rows ≠ []
  few : rows.length ≤ 6000
theorem runAll_len (w : Nat) : ∀ (rows : List Ins) (ks : List Nat), (runAll w ks rows).length = ks.length + rows.length
  | [], ks => rfl
  | I :: r, ks => by
    show (runAll w (ks ++ [val w ks I]) r).length = _
    rw [runAll_len w r, List.length_append, List.length_singleton, List.length_cons]
    omega
theorem runAll_ok {w : Nat} : ∀ (rows : List Ins) {ks : List Nat}, OkW w ks → OkW w (runAll w ks rows)
  | [], ks, h => h
  | I :: r, ks, h => by
    show OkW w (runAll w (ks ++ [val w ks I]) r)
    refine runAll_ok r fun k hk => ?_
    rcases List.mem_append.mp hk with hk | hk
    · exact h k hk
    · cases List.mem_singleton.mp hk; exact val_lt h I
theorem runAll_snoc (w : Nat) (ks : List Nat) (rows : List Ins) (I : Ins) : runAll w ks (rows ++ [I]) = runAll w ks rows ++ [val w (runAll w ks rows) I] := by
  unfold runAll
  rw [List.foldl_append]
  rfl
theorem runAll_take {w : Nat} {ks : List Nat} {rows : List Ins} {j : Nat} {I : Ins} (h : rows[j]? = some I) : runAll w ks (rows.take (j + 1)) = runAll w ks (rows.take j) ++ [val w (runAll w ks (rows.take j)) I] := by
  rw [take_at h, runAll_snoc]
theorem take_len' {α : Type} {xs : List α} {i : Nat} {x : α} (h : xs[i]? = some x) : (xs.take i).length = i := by
  have := lt_at h
  rw [List.length_take]
  omega
theorem mask_top (v : Int) (w : Nat) : andD (.int v) (.int (((2 ^ w : Nat) : Int) - 1)) = some (.int (v % ((2 ^ w : Nat) : Int))) := by
  show some (PyData.int (Builtin.bitAnd _ _)) = _
  rw [show ((2 ^ w : Nat) : Int) - 1 = 2 ^ w - 1 from by push_cast; rfl, PySem.W.kbt_mask]
  push_cast
  rfl
theorem values_ok {w many : Nat} {rows : List Ins} {ws : List Nat} (ok : OkP many rows) (hl : ws.length = many) (hk : OkW w ws) (hw : w ≤ 100000) (hm : many ≤ 1000) : RA.f_values [progD many rows, .int w, .tuple (natsD ws)] = some (.tuple (natsD ((runAll w ws rows).drop many))) := by
  refine fun_ok ?_
  refine s_env (ρ' := [some (.bor (.tuple [.int many, .tuple (rows.map insD)])), some (.bor (.int w)), some (.bor (.tuple (natsD ws))), none, none, none, none, none]) rfl ?_
  unfold RA.m_values
  repeat (first | with_reducible (first | refine op_ok (top_ok (by omega)) ?_) | walk_at "s")
  refine s_for (fun j ρ _ => ∃ x, ρ = [some (.bor (.tuple [.int many, .tuple (rows.map insD)])), some (.bor (.int w)), some (.bor (.tuple (natsD ws))), some (.fro (.int many)), some (.fro (.tuple (rows.map insD))), some (.fro (.int (((2 ^ w : Nat) : Int) - 1))), some (.own (.list (natsD (runAll w ws (rows.take j))))), x]) ?_
  repeat (first | walk_at "s")
  refine ⟨⟨none, rfl⟩, ?_, ?_⟩
  · rintro j d ρ t hj ⟨x, rfl⟩
    rw [List.getElem?_map] at hj
    obtain ⟨I, hI, rfl⟩ := Option.map_eq_some_iff.mp hj
    have hjl := lt_at hI
    refine ex_env rfl ?_
    have e1 := runAll_take (w := w) (ks := ws) hI
    have e2 := runAll_len w (rows.take j) ws
    have e3 := runAll_ok (rows.take j) hk
    rw [take_len' hI] at e2
    rw [e1]
    generalize runAll w ws (rows.take j) = ks at e1 e2 e3
    have few := ok.few
    have oki : I.ok ks.length := by rw [e2, hl]; exact ok.ok j I hI
    obtain ⟨z, ez, hz⟩ := whole oki e3 hw
    repeat (first | with_reducible (first | refine op_ok ez ?_ | refine op_ok (mask_top z w) ?_) | walk_at "s")
    rw [natsD_len, e2, hz, natsD_snoc]
    exact ⟨Nat.lt_of_lt_of_le (show ws.length + j < 1000000 by omega) (by decide), _, rfl⟩
  · rintro ρ t ⟨x, rfl⟩
    rw [List.length_map, List.take_length]
    repeat (first | with_reducible (first | refine op_ok (drop_nats _ _) ?_) | walk_at "s")
    rfl
theorem natsD_last {xs : List Nat} (h : xs ≠ []) : atI (natsD xs) (-1) = some (.int (xs.getLastD 0 : Nat)) := by
  obtain ⟨y, ys, rfl⟩ : ∃ y ys, xs = ys ++ [y] := ⟨xs.getLast h, xs.dropLast, (List.dropLast_concat_getLast h).symm⟩
  rw [← natsD_snoc, atI_last, List.getLastD_concat]
def res (w : Nat) (ws : List Nat) (rows : List Ins) : Nat := (runAll w ws rows).getLastD 0
theorem res_last {w many : Nat} {rows : List Ins} {ws : List Nat} (h : rows ≠ []) (hl : ws.length = many) : (runAll w ws rows).drop many ≠ [] ∧ ((runAll w ws rows).drop many).getLastD 0 = res w ws rows := by
  obtain ⟨I, is, rfl⟩ : ∃ I is, rows = is ++ [I] := ⟨rows.getLast h, rows.dropLast, (List.dropLast_concat_getLast h).symm⟩
  have e := runAll_len w is ws
  unfold res
  rw [runAll_snoc, List.drop_append_of_le_length (by omega), List.getLastD_concat, List.getLastD_concat]
  exact ⟨by simp, rfl⟩
theorem result_ok {w many : Nat} {rows : List Ins} {ws : List Nat} (ok : OkP many rows) (hl : ws.length = many) (hk : OkW w ws) (hw : w ≤ 100000) (hm : many ≤ 1000) : RA.f_result [progD many rows, .int w, .tuple (natsD ws)] = some (.int (res w ws rows : Nat)) := by
  refine fun_ok ?_
  refine s_env (ρ' := [some (.bor (.tuple [.int many, .tuple (rows.map insD)])), some (.bor (.int w)), some (.bor (.tuple (natsD ws)))]) rfl ?_
  unfold RA.m_result
  have ev := values_ok ok hl hk hw hm
  obtain ⟨h1, h2⟩ := res_last (w := w) ok.pos hl
  have el := natsD_last h1
  rw [h2] at el
  generalize (runAll w ws rows).drop many = l at ev el
  repeat (first | with_reducible (first | refine op_ok ev ?_ | refine op_ok (o_ixT el) ?_) | walk_at "s")
  rfl
theorem runAll_app (w : Nat) (ks : List Nat) (a b : List Ins) : runAll w ks (a ++ b) = runAll w (runAll w ks a) b := by
  unfold runAll
  rw [List.foldl_append]
theorem res_lt {w : Nat} {ws : List Nat} {rows : List Ins} (h : OkW w ws) : res w ws rows < 2 ^ w := by
  unfold res
  have := runAll_ok rows h
  cases e : (runAll w ws rows).getLast? with
  | none => rw [List.getLastD_eq_getLast?, e]; exact Nat.two_pow_pos w
  | some x => rw [List.getLastD_eq_getLast?, e]; exact this x (List.mem_of_getLast? e)
end RS
end Mi
namespace Mi.BA
open PySem L2

def m__law_power : MS Unit :=
  (mSeq (mSet 1 (mRv (mC (.int 1))))
  (mSeq (mFor (mRange1 (mCons (mV 0) mNil)) (gN 2) (mSet 1 (mRv (mBin mulD (mC (.int 2)) (mV 1)))))
  (mRet (mV 1))))
def f__law_power : List PyData → Option PyData := mFun 3 [true] m__law_power

def m__law_arity : MS Unit :=
  (mSeq (mIfS (mNot (mTest (mIsi "str" (mV 0)))) (mRet (mUn negD (mC (.int 1)))) mSkip)
  (mSeq (mIfS (mTest (mBin inD (mV 0) (mTup (mCons (mC (.str "zero")) (mCons (mC (.str "ones")) mNil))))) (mRet (mC (.int 0))) mSkip)
  (mSeq (mIfS (mTest (mBin inD (mV 0) (mTup (mCons (mC (.str "not")) (mCons (mC (.str "twice")) (mCons (mC (.str "minus")) (mCons (mC (.str "prefix")) (mCons (mC (.str "mask")) mNil)))))))) (mRet (mC (.int 1))) mSkip)
  (mRet (mIf (mTest (mBin inD (mV 0) (mTup (mCons (mC (.str "and")) (mCons (mC (.str "or")) (mCons (mC (.str "xor")) (mCons (mC (.str "plus")) (mCons (mC (.str "less")) mNil)))))))) (mC (.int 2)) (mUn negD (mC (.int 1))))))))
def f__law_arity : List PyData → Option PyData := mFun 1 [true] m__law_arity

def m__law_book : MS Unit :=
  (mSeq (mSet 1 (mRv (mKeep (mLst (mCons (mC (.str "zero")) (mCons (mC (.str "ones")) (mCons (mC (.str "not")) (mCons (mC (.str "and")) (mCons (mC (.str "or")) (mCons (mC (.str "xor")) mNil))))))))))
  (mSeq (mSet 2 (mRv (mBin addD (mV 1) (mKeep (mLst (mCons (mC (.str "twice")) (mCons (mC (.str "minus")) (mCons (mC (.str "plus")) (mCons (mC (.str "less")) mNil)))))))))
  (mSeq (mSet 3 (mRv (mKeep (mLst (mCons (mV 1) (mCons (mBin addD (mV 1) (mKeep (mLst (mCons (mC (.str "prefix")) mNil)))) (mCons (mBin addD (mV 1) (mKeep (mLst (mCons (mC (.str "twice")) mNil)))) (mCons (mBin addD (mV 1) (mKeep (mLst (mCons (mC (.str "minus")) mNil)))) (mCons (mV 2) (mCons (mBin addD (mV 2) (mKeep (mLst (mCons (mC (.str "mask")) mNil)))) (mCons (mBin addD (mV 2) (mKeep (mLst (mCons (mC (.str "prefix")) mNil)))) mNil)))))))))))
  (mRet (mBin ixD (mV 3) (mV 0))))))
def f__law_book : List PyData → Option PyData := mFun 4 [true] m__law_book

def m__law_operand : MS Tr :=
  (mRet (mIf (mTest (mBin eqD (mCallT [true] f__law_draw (mCons (mV 0) (mCons (mC (.int 2)) mNil))) (mC (.int 0)))) (mBin subD (mBin subD (mV 1) (mC (.int 1))) (mCallT [true] f__law_draw (mCons (mV 0) (mCons (mCall minD (mCons (mC (.int 3)) (mCons (mV 1) mNil))) mNil)))) (mCallT [true] f__law_draw (mCons (mV 0) (mCons (mV 1) mNil)))))
def f__law_operand : Tr → List PyData → Option (PyData × Tr) := mFunT 2 [true] m__law_operand

def m__law_row : MS Tr :=
  (mSeq (mIfS (mTest (mBin eqD (mV 1) (mC (.str "mask")))) (mSeq (mSet 3 (mRv (mBin addD (mC (.int 1)) (mCallT [true] f__law_draw (mCons (mV 0) (mCons (mCallT [true] f__law_pick (mCons (mV 0) (mCons (mKeep (mLst (mCons (mC (.int 3)) (mCons (mC (.int 8)) (mCons (mC (.int 24)) mNil))))) mNil))) mNil))))))
  (mRet (mTup (mCons (mV 1) (mCons (mCall tupleD (mCons (mKeep (mLc (mRange1 (mCons (mV 3) mNil)) (gN 5) mYes (mCallT [true] f__law_draw (mCons (mV 0) (mCons (mC (.int 2)) mNil))) [5])) mNil)) mNil))))) mSkip)
  (mRet (mBin addD (mTup (mCons (mV 1) mNil)) (mCall tupleD (mCons (mKeep (mLc (mRange1 (mCons (mCallP [true] f__law_arity (mCons (mV 1) mNil)) mNil)) (gN 4) mYes (mCallT [true] f__law_operand (mCons (mV 0) (mCons (mV 2) mNil))) [4])) mNil)))))
def f__law_row : Tr → List PyData → Option (PyData × Tr) := mFunT 6 [true, true] m__law_row

def m__law_handed : MS Tr :=
  (mSeq (mPar 3 4 (mConsV (mNew (mLst mNil)) (mConsV (mRv (mCallP [true] f__law_power (mCons (mV 2) mNil))) mNilV)))
  (mSeq (mFor (mRange1 (mCons (mV 1) mNil)) (gN 5) (mSeq (mSet 6 (mRv (mC (.int 0))))
  (mSeq (mFor (mRange1 (mCons (mBin addD (mBin fdivD (mV 2) (mC (.int 16))) (mC (.int 1))) mNil)) (gN 7) (mSet 6 (mRv (mBin addD (mBin mulD (mC (.int 65536)) (mV 6)) (mCallT [true] f__law_draw (mCons (mV 0) (mCons (mC (.int 65536)) mNil)))))))
  (mSeq (mSet 8 (mRv (mBin addD (mBin mulD (mKeep (mLst (mCons (mBin modD (mV 6) (mV 4)) mNil))) (mC (.int 4))) (mKeep (mLst (mCons (mC (.int 0)) (mCons (mBin subD (mV 4) (mC (.int 1))) (mCons (mBin fdivD (mV 4) (mC (.int 2))) (mCons (mC (.int 1)) mNil)))))))))
  (mApp 3 (mCallT [true] f__law_pick (mCons (mV 0) (mCons (mV 8) mNil))))))))
  (mRet (mCall tupleD (mCons (mV 3) mNil)))))
def f__law_handed : Tr → List PyData → Option (PyData × Tr) := mFunT 9 [true, true] m__law_handed

end Mi.BA
/-! What the second family of laws makes of its bag. -/
namespace Mi
open PySem L2
namespace BA
local macro_rules | `(tactic| walk_at "op") => `(tactic| with_reducible first
  | exact o_add | exact o_addI | exact o_sub | exact o_lt | exact o_le | exact o_gt | exact o_ge | exact o_eqI | exact o_neI | exact o_eqS | exact o_neS | exact o_neg | exact o_inv | exact o_and | exact o_or | exact o_xor
  | exact o_int | exact o_intB | exact o_abs | exact o_tupL | exact o_tupT | exact o_lenL | exact o_lenT | exact o_isN | exact o_isNotN)
local macro_rules | `(tactic| walk_at "ix") => `(tactic| ((with_reducible apply o_ixA); (first | apply o_ixL | apply o_ixT | apply o_dixS); focus rfl))
local macro_rules | `(tactic| walk_at "op2") => `(tactic| first
  | ((with_reducible apply o_inA); focus rfl)
  | ((with_reducible apply o_notInA); focus rfl)
  | (with_reducible (first | refine o_addL ?_ | refine o_addT ?_); simp only [List.length_cons, List.length_nil]; decide)
  | ((with_reducible apply o_modA); focus (exact mod_ok (by decide)))
  | ((with_reducible apply o_fdivA); focus (exact o_fdiv (by decide) (by decide))))
local macro_rules | `(tactic| walk_at "call") => `(tactic| fail)
local macro_rules | `(tactic| walk_at "s") => `(tactic| first
  | ((with_reducible apply s_set_env); focus (dsimp only [List.set] <;> rfl))
  | ((with_reducible apply f_callPK); (focus rfl); (focus rfl))
  | with_reducible first
    | refine s_seq ?_ | refine d_f (f_bin ?_) | refine d_f (f_c ?_) | refine s_set ?_ | refine v_rv ?_ | refine s_if ?_ | refine b_test ?_ | refine f_bin ?_ | refine f_c ?_ | refine s_ret ?_ | refine s_skip ?_
    | refine r_cons ?_ | refine r_nil ?_ | refine a_consT ?_ | refine a_nil ?_ | refine k_cons ?_ | refine k_nil ?_ | refine a_consF ?_
    | refine f_call ?_ | refine f_callP ?_ | refine f_keep ?_ | refine f_tup ?_ | refine f_if ?_ | refine f_andV ?_ | refine f_orV ?_ | refine f_notV ?_ | refine f_isi ?_ | refine f_sl ?_ | refine f_un ?_ | refine f_chain ?_
    | refine b_and ?_ | refine b_or ?_ | refine b_not ?_ | refine b_yes ?_
    | refine s_asg ?_ | refine s_app ?_ | refine s_par ?_ | refine s_pars ?_ | refine s_drop ?_ | refine s_retN ?_ | refine s_break ?_ | refine s_cont ?_ | refine s_end ?_ | refine s_setP ?_ | refine s_dropP ?_ | refine s_appP ?_ | refine p_at ?_ | refine p_end ?_ | refine s_par3 ?_ | refine ex_three ?_ | refine i_zip ?_ | refine zz_L ?_ | refine zz_T ?_ | refine l_revL ?_ | refine ex_lst ?_
    | refine l_lst ?_ | refine l_dict ?_ | refine l_listL ?_ | refine o_no ?_ | refine o_part ?_ | refine i_enum ?_ | refine i_range1 ?_ | refine v_new ?_ | refine vs_nil ?_ | refine vs_cons ?_
  | ((with_reducible apply d_v); focus rfl)
  | ((with_reducible apply f_v); focus rfl)
  | ((with_reducible apply s_aug); focus rfl)
  | ((with_reducible apply f_callT); focus rfl)
  | ((with_reducible apply w_b); (focus rfl))
  | ((with_reducible apply i_itemsB); (focus rfl); (focus rfl))
  | with_reducible first | refine d_f ?_ | refine w_f ?_ | refine i_items ?_
  | ((with_reducible refine if_yes ?_ ?_); focus rfl)
  | ((with_reducible refine if_no ?_ ?_); focus rfl)
  | ((with_reducible apply op_ok); focus (first | walk_at "op" | walk_at "ix" | walk_at "op2"))
  | ((with_reducible refine len_ok ?_ ?_); focus (simp only [List.length_cons, List.length_nil]; decide))
  | ((with_reducible refine pk_ok ?_ ?_); focus rfl)
  | ((with_reducible refine lt_ok ?_ ?_); focus (simp only [List.length_append, List.length_cons, List.length_nil]; decide))
  | ((with_reducible refine dict_ok ?_ ?_); focus (exact ⟨rfl, by decide, by decide⟩))
  | ((with_reducible refine par_ok ?_ ?_); focus (refine ⟨?_, rfl⟩; simp only [List.length_cons, List.length_nil]; decide))
  | walk_at "call"
  | with_reducible first | refine ex_bool ?_ | refine ex_int ?_ | refine ex_itL ?_ | refine ex_itT ?_ | refine ex_rng ?_ | refine ex_two ?_ | refine ex_lstL ?_ | refine ex_lstT ?_
  | ((with_reducible apply ex_env); focus rfl)
  | ((with_reducible apply ex_own); focus rfl))
theorem draw_ex {n : Int} {t : Tr} {m : Nat} {P : PyData → Tr → Prop} (h : TrOk n t) (hn : n ≤ 1000000000) (h0 : 1 ≤ m) (hm : m < 2 ^ 4000) (q : ∀ (r : Nat) (t' : Tr), TrOk (n + 1) t' → r < m → P (.int r) t') : ∃ z t2, f__law_draw t [.int (m : Int)] = some (z, t2) ∧ P z t2 := by
  obtain ⟨r, t', e, h', hr⟩ := draw h hn h0 hm
  exact ⟨_, _, e, q r t' h' hr⟩
theorem draw_exI {n : Int} {t : Tr} {z : Int} (m : Nat) {P : PyData → Tr → Prop} (e : z = (m : Int)) (h : TrOk n t) (hn : n ≤ 1000000000) (h0 : 1 ≤ m) (hm : m ≤ 4611686018427387904) (q : ∀ (r : Nat) (t' : Tr), TrOk (n + 1) t' → r < m → P (.int r) t') : ∃ z' t2, f__law_draw t [.int z] = some (z', t2) ∧ P z' t2 := by
  subst e
  exact draw_ex h hn h0 (pow_small hm) q
theorem pick_ex {n : Int} {t : Tr} {xs : List PyData} {P : PyData → Tr → Prop} (h : TrOk n t) (hn : n ≤ 1000000000) (hx : xs ≠ []) (hl : xs.length < 1000000) (q : ∀ (x : PyData) (t' : Tr), TrOk (n + 1) t' → x ∈ xs → P x t') : ∃ z t2, f__law_pick t [.list xs] = some (z, t2) ∧ P z t2 := by
  obtain ⟨x, t', e, h', hr⟩ := pick h hn hx hl
  exact ⟨_, _, e, q x t' h' hr⟩
theorem mul_nat {a b ka kb : Nat} (ha : a < 2 ^ ka) (hb : b < 2 ^ kb) (h : ka + kb ≤ 100000000) : mulD (.int (a : Int)) (.int (b : Int)) = some (.int ((a * b : Nat) : Int)) := by
  have : mulD (.int (a : Int)) (.int (b : Int)) = some (.int ((a : Int) * b)) := mulI_ok (a := ka) (b := kb) (by rw [Int.natAbs_natCast]; exact ha) (by rw [Int.natAbs_natCast]; exact hb) (by omega)
  rw [this]
  push_cast
  rfl
theorem power {w : Nat} (hw : w ≤ 100000) : f__law_power [.int w] = some (.int ((2 ^ w : Nat) : Int)) := by
  refine fun_ok ?_
  refine s_env (ρ' := [some (.bor (.int w)), none, none]) rfl ?_
  unfold m__law_power
  repeat (first | walk_at "s")
  refine s_for (fun j ρ _ => ∃ x, ρ = [some (.bor (.int w)), some (.fro (.int ((2 ^ j : Nat) : Int))), x]) ?_
  repeat (first | walk_at "s")
  refine ⟨by omega, ⟨none, rfl⟩, ?_, ?_⟩
  · rintro j d ρ t hj ⟨x, rfl⟩
    obtain ⟨k, hk, rfl⟩ := natsD_at hj
    have hjl := range_at hk
    refine ex_env rfl ?_
    have e := mul_nat (a := 2) (b := 2 ^ j) (ka := 2) (kb := j + 1) (by decide) (Nat.pow_lt_pow_right (by decide) (by omega)) (by omega)
    repeat (first | with_reducible (first | refine op_ok e ?_) | walk_at "s")
    refine ⟨some (.fro (.int k)), ?_⟩
    rw [Nat.pow_succ, Nat.mul_comm]
    rfl
  · rintro ρ t ⟨x, rfl⟩
    repeat (first | walk_at "s")
    rw [natsD_len, List.length_range, Int.toNat_natCast]
/-- the words of instructions -/
inductive Wd | zero | ones | un (o : RS.U1) | bin (o : RS.U2) | mask
def Wd.s : Wd → Str
  | .zero => "zero" | .ones => "ones" | .un o => o.s | .bin o => o.s | .mask => "mask"
def Wd.arity : Wd → Nat
  | .zero => 0 | .ones => 0 | .un _ => 1 | .bin _ => 2 | .mask => 1
theorem arity (wd : Wd) : f__law_arity [.str wd.s] = some (.int wd.arity) := by
  refine fun_ok ?_
  refine s_env (ρ' := [some (.bor (.str wd.s))]) rfl ?_
  unfold m__law_arity
  cases wd with
  | zero => repeat (first | walk_at "s")
            rfl
  | ones => repeat (first | walk_at "s")
            rfl
  | mask => repeat (first | walk_at "s")
            rfl
  | un o => cases o <;> (repeat (first | walk_at "s")) <;> rfl
  | bin o => cases o <;> (repeat (first | walk_at "s")) <;> rfl
theorem operand {n : Int} {t : Tr} {top : Nat} {P : PyData → Tr → Prop} (h : TrOk n t) (hn : n ≤ 900000000) (h0 : 1 ≤ top) (ht : top ≤ 1000000) (q : ∀ (r : Nat) (t' : Tr), TrOk (n + 2) t' → r < top → P (.int r) t') : ∃ z t2, f__law_operand t [.int (top : Int)] = some (z, t2) ∧ P z t2 := by
  refine funT_ok ?_
  refine s_env (ρ' := [some (.tray 0), some (.bor (.int top))]) rfl ?_
  unfold m__law_operand
  repeat (first | walk_at "s")
  refine draw_exI 2 rfl h (by omega) (by omega) (by omega) fun r t1 h1 hr => ?_
  repeat (first | walk_at "s")
  refine if_both (fun hb => ?_) (fun hb => ?_)
  · repeat (first | walk_at "s")
    refine op_ok (z := .int ((min 3 top : Nat) : Int)) ?_ ?_
    · show some (PyData.int (if (top : Int) < 3 then (top : Int) else 3)) = _
      congr 2
      split <;> omega
    repeat (first | walk_at "s")
    refine draw_ex h1 (by omega) (by omega) (pow_small (by omega)) fun r2 t2 h2 hr2 => ?_
    repeat (first | walk_at "s")
    have e : ((top : Int) - 1 - r2) = ((top - 1 - r2 : Nat) : Int) := by omega
    rw [e]
    exact q _ _ (h2.mono (by omega)) (by omega)
  · repeat (first | walk_at "s")
    refine draw_ex h1 (by omega) (by omega) (pow_small (by omega)) fun r2 t2 h2 hr2 => ?_
    exact q _ _ (h2.mono (by omega)) hr2
end BA
end Mi
/-! What the second family of laws makes of its bag: rows, words. -/
namespace Mi
open PySem L2
theorem fits {n : Nat} (h : n ≤ 1000000) : n ≤ sizeLine := Nat.le_trans h (by decide)
theorem fits' {n : Nat} (h : n < 1000000) : n < sizeLine := Nat.lt_of_lt_of_le h (by decide)
namespace BA
local macro_rules | `(tactic| walk_at "op") => `(tactic| with_reducible first
  | exact o_add | exact o_addI | exact o_sub | exact o_lt | exact o_le | exact o_gt | exact o_ge | exact o_eqI | exact o_neI | exact o_eqS | exact o_neS | exact o_neg | exact o_inv | exact o_and | exact o_or | exact o_xor
  | exact o_int | exact o_intB | exact o_abs | exact o_tupL | exact o_tupT | exact o_lenL | exact o_lenT | exact o_isN | exact o_isNotN)
local macro_rules | `(tactic| walk_at "ix") => `(tactic| ((with_reducible apply o_ixA); (first | apply o_ixL | apply o_ixT | apply o_dixS); focus rfl))
local macro_rules | `(tactic| walk_at "op2") => `(tactic| first
  | ((with_reducible apply o_inA); focus rfl)
  | ((with_reducible apply o_notInA); focus rfl)
  | (with_reducible (first | refine o_addL ?_ | refine o_addT ?_); simp only [List.length_cons, List.length_nil]; decide)
  | ((with_reducible apply o_modA); focus (exact mod_ok (by decide)))
  | ((with_reducible apply o_fdivA); focus (exact o_fdiv (by decide) (by decide))))
local macro_rules | `(tactic| walk_at "call") => `(tactic| fail)
local macro_rules | `(tactic| walk_at "s") => `(tactic| first
  | ((with_reducible apply s_set_env); focus (dsimp only [List.set] <;> rfl))
  | ((with_reducible apply f_callPK); (focus rfl); (focus rfl))
  | with_reducible first
    | refine s_seq ?_ | refine d_f (f_bin ?_) | refine d_f (f_c ?_) | refine s_set ?_ | refine v_rv ?_ | refine s_if ?_ | refine b_test ?_ | refine f_bin ?_ | refine f_c ?_ | refine s_ret ?_ | refine s_skip ?_
    | refine r_cons ?_ | refine r_nil ?_ | refine a_consT ?_ | refine a_nil ?_ | refine k_cons ?_ | refine k_nil ?_ | refine a_consF ?_
    | refine f_call ?_ | refine f_callP ?_ | refine f_keep ?_ | refine f_tup ?_ | refine f_if ?_ | refine f_andV ?_ | refine f_orV ?_ | refine f_notV ?_ | refine f_isi ?_ | refine f_sl ?_ | refine f_un ?_ | refine f_chain ?_
    | refine b_and ?_ | refine b_or ?_ | refine b_not ?_ | refine b_yes ?_
    | refine s_asg ?_ | refine s_app ?_ | refine s_par ?_ | refine s_pars ?_ | refine s_drop ?_ | refine s_retN ?_ | refine s_break ?_ | refine s_cont ?_ | refine s_end ?_ | refine s_setP ?_ | refine s_dropP ?_ | refine s_appP ?_ | refine p_at ?_ | refine p_end ?_ | refine s_par3 ?_ | refine ex_three ?_ | refine i_zip ?_ | refine zz_L ?_ | refine zz_T ?_ | refine l_revL ?_ | refine ex_lst ?_
    | refine l_lst ?_ | refine l_dict ?_ | refine l_listL ?_ | refine o_no ?_ | refine o_part ?_ | refine i_enum ?_ | refine i_range1 ?_ | refine v_new ?_ | refine vs_nil ?_ | refine vs_cons ?_
  | ((with_reducible apply d_v); focus rfl)
  | ((with_reducible apply f_v); focus rfl)
  | ((with_reducible apply s_aug); focus rfl)
  | ((with_reducible apply f_callT); focus rfl)
  | ((with_reducible apply w_b); (focus rfl))
  | ((with_reducible apply i_itemsB); (focus rfl); (focus rfl))
  | with_reducible first | refine d_f ?_ | refine w_f ?_ | refine i_items ?_
  | ((with_reducible refine if_yes ?_ ?_); focus rfl)
  | ((with_reducible refine if_no ?_ ?_); focus rfl)
  | ((with_reducible apply op_ok); focus (first | walk_at "op" | walk_at "ix" | walk_at "op2"))
  | ((with_reducible refine len_ok ?_ ?_); focus (simp only [List.length_cons, List.length_nil]; decide))
  | ((with_reducible refine pk_ok ?_ ?_); focus rfl)
  | ((with_reducible refine lt_ok ?_ ?_); focus (simp only [List.length_append, List.length_cons, List.length_nil]; decide))
  | ((with_reducible refine dict_ok ?_ ?_); focus (exact ⟨rfl, by decide, by decide⟩))
  | ((with_reducible refine par_ok ?_ ?_); focus (refine ⟨?_, rfl⟩; simp only [List.length_cons, List.length_nil]; decide))
  | walk_at "call"
  | with_reducible first | refine ex_bool ?_ | refine ex_int ?_ | refine ex_itL ?_ | refine ex_itT ?_ | refine ex_rng ?_ | refine ex_two ?_ | refine ex_lstL ?_ | refine ex_lstT ?_
  | ((with_reducible apply ex_env); focus rfl)
  | ((with_reducible apply ex_own); focus rfl))
/-- a comprehension that draws numbers -/
theorem l_lc_draws {g : PyData → Env → Option Env} {f : ME Tr} {vs : List Nat} {its : Env → Tr → Option (List PyData × Tr)} {ρ : Env} {t : Tr} {Q : PyData → Tr → Prop} (n : Int) (c : Nat) (top : Nat)
    (hi : Eg its ρ t fun ds t1 => ds.length ≤ 1000000 ∧ TrOk n t1 ∧ (∀ (j : Nat) (d : PyData) (t : Tr), ds[j]? = some d → TrOk (n + c * j) t → ∃ ρ1, g d (wipeR ρ vs) = some ρ1 ∧ Ef f ρ1 t fun x t2 => ∃ r : Nat, x = .int r ∧ r < top ∧ TrOk (n + c * ((j + 1 : Nat) : Int)) t2) ∧
      ∀ (xs : List Nat) (t : Tr), xs.length = ds.length → (∀ x ∈ xs, x < top) → TrOk (n + c * ds.length) t → Q (.list (natsD xs)) t) : Eg (mLc its g mYes f vs) ρ t Q := by
  refine l_lc (fun j acc t => ∃ xs : List Nat, acc = natsD xs ∧ xs.length = j ∧ (∀ x ∈ xs, x < top) ∧ TrOk (n + c * j) t) ?_
  obtain ⟨ds, t1, e, hz, h0, hs, hq⟩ := hi
  refine ⟨ds, t1, e, fits hz, ⟨[], rfl, rfl, by simp, h0.mono (by omega)⟩, ?_, ?_⟩
  · rintro j d acc t hj ⟨xs, rfl, hl, hb, ht⟩
    obtain ⟨ρ1, e1, ef⟩ := hs j d t hj ht
    refine ⟨ρ1, e1, b_yes (if_yes rfl ?_)⟩
    refine ef.mono ?_
    rintro x t2 ⟨r, rfl, hr, h2⟩
    refine ⟨xs ++ [r], natsD_snoc _ _, by rw [List.length_append, hl]; rfl, fun x hx => ?_, h2⟩
    rcases List.mem_append.mp hx with hx | hx
    · exact hb x hx
    · cases List.mem_singleton.mp hx; exact hr
  · rintro acc t ⟨xs, rfl, hl, hb, ht⟩
    exact hq xs t hl hb ht
def Wd.of : RS.Ins → Wd
  | .zero => .zero | .ones => .ones | .un o _ => .un o | .bin o _ _ => .bin o | .mask _ => .mask
theorem row {n : Int} {t : Tr} {top : Nat} {wd : Wd} {P : PyData → Tr → Prop} (h : TrOk n t) (hn : n ≤ 800000000) (h0 : 1 ≤ top ∨ wd = .zero ∨ wd = .ones ∨ wd = .mask) (ht : top ≤ 1000000)
    (q : ∀ (I : RS.Ins) (t' : Tr), TrOk (n + 100) t' → I.ok top → Wd.of I = wd → P (RS.insD I) t') : ∃ z t2, f__law_row t [.str wd.s, .int (top : Int)] = some (z, t2) ∧ P z t2 := by
  refine funT_ok ?_
  refine s_env (ρ' := [some (.tray 0), some (.bor (.str wd.s)), some (.bor (.int top)), none, none, none]) rfl ?_
  unfold m__law_row
  by_cases hm : wd = .mask
  · subst hm
    repeat (first | walk_at "s")
    refine pick_ex h (by omega) (by simp) (by simp) fun x t1 h1 hx => ?_
    have hx2 : ∃ m : Nat, x = .int m ∧ 1 ≤ m ∧ m ≤ 24 := by
      simp only [List.mem_cons, List.not_mem_nil, or_false] at hx
      rcases hx with rfl | rfl | rfl
      · exact ⟨3, rfl, by omega, by omega⟩
      · exact ⟨8, rfl, by omega, by omega⟩
      · exact ⟨24, rfl, by omega, by omega⟩
    obtain ⟨m, rfl, hm1, hm2⟩ := hx2
    repeat (first | walk_at "s")
    refine draw_ex h1 (by omega) (by omega) (pow_small (by omega)) fun r t2 h2 hr => ?_
    repeat (first | walk_at "s")
    refine l_lc_draws (n + 1 + 1) 1 2 ?_
    repeat (first | walk_at "s")
    refine ⟨by omega, ?_⟩
    have e1 : ((1 : Int) + r).toNat = 1 + r := by omega
    rw [e1, natsD_len, List.length_range]
    refine ⟨by omega, h2, ?_, ?_⟩
    · intro j d t hj ht
      obtain ⟨k, hk, rfl⟩ := natsD_at hj
      have := range_at hk
      refine ex_env rfl ?_
      repeat (first | walk_at "s")
      refine draw_exI 2 rfl ht (by omega) (by omega) (by omega) fun r t1 h1 hr => ⟨r, rfl, hr, h1.mono (by omega)⟩
    · intro xs t hl hb ht
      repeat (first | walk_at "s")
      refine q (.mask xs) t (ht.mono (by omega)) ⟨fun z => ?_, by omega, fun b hb2 => ?_⟩ rfl
      · subst z; rw [List.length_nil] at hl; omega
      · have := hb b hb2; omega
  · refine s_seq (s_if (b_test (f_bin (d_v rfl (d_f (f_c (op_ok o_eqS (ex_bool (if_no ?_ ?_)))))))))
    · cases wd with
      | mask => exact absurd rfl hm
      | zero => rfl
      | ones => rfl
      | un o => cases o <;> rfl
      | bin o => cases o <;> rfl
    have ha := arity wd
    have hw2 : wd.arity ≤ 2 := by cases wd <;> (unfold Wd.arity; dsimp only; omega)
    repeat (first | with_reducible (first | refine op_ok ha ?_) | walk_at "s")
    refine l_lc_draws n 2 top ?_
    repeat (first | with_reducible (first | refine op_ok ha ?_) | walk_at "s")
    refine ⟨by omega, ?_⟩
    rw [natsD_len, List.length_range, Int.toNat_natCast]
    refine ⟨by omega, h, ?_, ?_⟩
    · intro j d t hj ht2
      obtain ⟨k, hk, rfl⟩ := natsD_at hj
      have := range_at hk
      refine ex_env rfl ?_
      repeat (first | walk_at "s")
      have h1 : 1 ≤ top := by
        rcases h0 with h0 | rfl | rfl | rfl
        · exact h0
        · exact absurd this.2 (Nat.not_lt_zero j)
        · exact absurd this.2 (Nat.not_lt_zero j)
        · exact absurd rfl hm
      refine operand ht2 (by omega) h1 ht fun r t' h' hr => ⟨r, rfl, hr, h'.mono (by omega)⟩
    · intro xs t hl hb ht2
      repeat (first | walk_at "s")
      refine op_ok (o_addT ?_) ?_
      · rw [natsD_len]
        refine fits ?_
        simp only [List.length_cons, List.length_nil]
        omega
      have h3 := ht2.mono (m := n + 100) (by omega)
      cases wd with
      | mask => exact absurd rfl hm
      | zero => cases List.eq_nil_of_length_eq_zero hl; exact q .zero t h3 trivial rfl
      | ones => cases List.eq_nil_of_length_eq_zero hl; exact q .ones t h3 trivial rfl
      | un o =>
        obtain ⟨a, rfl⟩ := List.length_eq_one_iff.mp hl
        exact q (.un o a) t h3 (hb a (by simp)) rfl
      | bin o =>
        obtain ⟨a, b, rfl⟩ : ∃ a b, xs = [a, b] := by
          match xs, hl with
          | [a, b], _ => exact ⟨a, b, rfl⟩
        exact q (.bin o a b) t h3 ⟨hb a (by simp), hb b (by simp)⟩ rfl
/-- drawn words -/
theorem handed {n : Int} {t : Tr} {many w : Nat} {P : PyData → Tr → Prop} (h : TrOk n t) (hn : n ≤ 700000000) (hm : many ≤ 10) (hw0 : 1 ≤ w) (hw : w ≤ 256)
    (q : ∀ (ws : List Nat) (t' : Tr), TrOk (n + 400) t' → ws.length = many → RS.OkW w ws → P (.tuple (natsD ws)) t') : ∃ z t2, f__law_handed t [.int (many : Int), .int (w : Int)] = some (z, t2) ∧ P z t2 := by
  refine funT_ok ?_
  refine s_env (ρ' := [some (.tray 0), some (.bor (.int many)), some (.bor (.int w)), none, none, none, none, none, none]) rfl ?_
  unfold m__law_handed
  have hp : 0 < 2 ^ w := Nat.two_pow_pos w
  repeat (first | with_reducible (first | refine op_ok (power (by omega)) ?_) | walk_at "s")
  refine s_for (fun j ρ t => ∃ (ws : List Nat) (x5 x6 x7 x8 : Option Val), ρ = [some (.tray 0), some (.bor (.int many)), some (.bor (.int w)), some (.own (.list (natsD ws))), some (.fro (.int ((2 ^ w : Nat) : Int))), x5, x6, x7, x8] ∧ ws.length = j ∧ RS.OkW w ws ∧ TrOk (n + 30 * j) t) ?_
  repeat (first | walk_at "s")
  refine ⟨by omega, ⟨[], none, none, none, none, rfl, rfl, by simp [RS.OkW], h.mono (by omega)⟩, ?_, ?_⟩
  · rintro j d ρ t hj ⟨ws, x5, x6, x7, x8, rfl, hl, hk, ht⟩
    obtain ⟨k, hk', rfl⟩ := natsD_at hj
    have hjl := range_at hk'
    rw [Int.toNat_natCast] at hjl
    refine ex_env rfl ?_
    repeat (first | walk_at "s")
    refine s_for (fun i ρ t => ∃ (v : Nat) (x7 : Option Val), ρ = [some (.tray 0), some (.bor (.int many)), some (.bor (.int w)), some (.own (.list (natsD ws))), some (.fro (.int ((2 ^ w : Nat) : Int))), some (.fro (.int k)), some (.fro (.int v)), x7, x8] ∧ v < 2 ^ (16 * i) ∧ TrOk (n + 30 * j + i) t) ?_
    repeat (first | walk_at "s")
    have e1 : ((w : Int) / 16 + 1).toNat = w / 16 + 1 := by omega
    rw [e1]
    refine ⟨by omega, ⟨0, x7, rfl, by decide, ht.mono (by omega)⟩, ?_, ?_⟩
    · rintro i d ρ t hi ⟨v, x7, rfl, hv, ht2⟩
      obtain ⟨k2, hk2, rfl⟩ := natsD_at hi
      have hil := range_at hk2
      refine ex_env rfl ?_
      have e2 := mul_nat (a := 65536) (b := v) (ka := 17) (kb := 16 * i) (by decide) hv (by omega)
      repeat (first | with_reducible (first | refine op_ok e2 ?_) | walk_at "s")
      refine draw_exI 65536 rfl ht2 (by omega) (by omega) (by omega) fun r t1 h1 hr => ?_
      repeat (first | walk_at "s")
      refine ⟨65536 * v + r, some (.fro (.int k2)), rfl, ?_, h1.mono (by omega)⟩
      rw [show 16 * (i + 1) = 16 * i + 16 from by omega, Nat.pow_add]
      have : (2 : Nat) ^ 16 = 65536 := by decide
      omega
    · rintro ρ t ⟨v, x7, rfl, hv, ht2⟩
      rw [natsD_len, List.length_range] at ht2
      have e3 := mod_nat (a := v) hp
      have e4 : mulD (.list [.int ((v % 2 ^ w : Nat) : Int)]) (.int 4) = some (.list (natsD [v % 2 ^ w, v % 2 ^ w, v % 2 ^ w, v % 2 ^ w])) := rfl
      have e5 : fdivD (.int ((2 ^ w : Nat) : Int)) (.int 2) = some (.int ((2 ^ w / 2 : Nat) : Int)) := by
        rw [o_fdiv (by decide) (by decide)]
        push_cast
        rfl
      repeat (first | with_reducible (first | refine op_ok e3 ?_ | refine op_ok e4 ?_ | refine op_ok e5 ?_) | walk_at "s")
      refine op_ok (o_addL (by rw [natsD_len]; exact fits (by simp only [List.length_cons, List.length_nil]; omega))) ?_
      repeat (first | walk_at "s")
      have e6 : natsD [v % 2 ^ w, v % 2 ^ w, v % 2 ^ w, v % 2 ^ w] ++ [PyData.int 0, PyData.int (((2 ^ w : Nat) : Int) - 1), PyData.int ((2 ^ w / 2 : Nat) : Int), PyData.int 1] = natsD [v % 2 ^ w, v % 2 ^ w, v % 2 ^ w, v % 2 ^ w, 0, 2 ^ w - 1, 2 ^ w / 2, 1] := by
        rw [show ((2 ^ w : Nat) : Int) - 1 = ((2 ^ w - 1 : Nat) : Int) from by omega]
        rfl
      rw [e6]
      refine pick_ex ht2 (by omega) (by simp [natsD]) (by rw [natsD_len]; simp) fun x t1 h1 hx => ?_
      have hx2 : ∃ u : Nat, x = .int u ∧ u < 2 ^ w := by
        have h2w : 2 ≤ 2 ^ w := Nat.le_trans (by decide : 2 ≤ 2 ^ 1) (Nat.pow_le_pow_right (by decide) hw0)
        have hmod := Nat.mod_lt v hp
        obtain ⟨u, hu, rfl⟩ := List.mem_map.mp hx
        refine ⟨u, rfl, ?_⟩
        simp only [List.mem_cons, List.not_mem_nil, or_false] at hu
        omega
      obtain ⟨u, rfl, hu⟩ := hx2
      repeat (first | walk_at "s")
      rw [natsD_snoc]
      refine ⟨by rw [natsD_len]; exact fits' (by omega), ws ++ [u], _, _, _, _, rfl, by rw [List.length_append, hl]; rfl, fun y hy => ?_, h1.mono (by omega)⟩
      rcases List.mem_append.mp hy with hy | hy
      · exact hk y hy
      · cases List.mem_singleton.mp hy; exact hu
  · rintro ρ t ⟨ws, x5, x6, x7, x8, rfl, hl, hk, ht⟩
    rw [natsD_len, List.length_range] at hl ht
    repeat (first | walk_at "s")
    exact q ws t (ht.mono (by omega)) hl hk
end BA
end Mi
/-! Machines as the first family's laws make them. -/
namespace Mi
open PySem L2
def pairD (p : Nat × Nat) : PyData := .tuple [.int p.1, .int p.2]
def rowD (r : List (Nat × Nat)) : PyData := .tuple (r.map pairD)
def machD (many : Nat) (M : List (List (Nat × Nat))) : PyData := .tuple [.int many, .tuple (M.map rowD)]
structure OkRow (many n : Nat) (r : List (Nat × Nat)) : Prop where
  len : r.length = 2 ^ many
  goal : ∀ p ∈ r, p.1 < n
  bit : ∀ p ∈ r, p.2 < 2
structure OkM (many : Nat) (M : List (List (Nat × Nat))) : Prop where
  pos : 0 < M.length
  row : ∀ r ∈ M, OkRow many M.length r
theorem mV_tray {T : Type} {ρ : Env} {t : T} {i k : Nat} (h : ρ[i]? = some (some (.tray k))) : mV i ρ t = some (.tray k, t) := by
  unfold mV
  rw [h]
theorem pow_small {m : Nat} (h : m ≤ 1000000) : m < 2 ^ 4000 := Nat.lt_of_lt_of_le (Nat.lt_of_le_of_lt h (by decide : 1000000 < 2 ^ 20)) (Nat.pow_le_pow_right (by decide) (by decide))
namespace TA
theorem draw_call {n : Int} {t : Tr} {m : Nat} {ρ : Env} {fe : ME Tr} {r0 : Rv} (h0 : ρ[0]? = some (some (.tray 0))) (he : fe ρ t = some (r0, t)) (hr : rd ρ r0 = some (.int m)) (hf : argOf ρ true r0 = some (.int m)) (h : TrOk n t) (hn : n ≤ 1000000000) (hm : m < 2 ^ 4000) :
    ∃ (r : Nat) (t' : Tr), mCallT [true] f__law_draw (mCons (mV 0) (mCons fe mNil)) ρ t = some (.fro (.int r), t') ∧ TrOk (n + 1) t' ∧ (r < m ∨ (m < 2 ∧ r = 0)) := by
  obtain ⟨r, t', e, h', hr'⟩ := draw h hn hm
  refine ⟨r, t', ev_callT (ev_cons (mV_tray h0) (ev_cons he ev_nil)) ?_ e, h', hr'⟩
  unfold args
  rw [hf]
  rfl
theorem pick_call {n : Int} {t : Tr} {ρ : Env} {fe : ME Tr} {xs : List PyData} (h0 : ρ[0]? = some (some (.tray 0))) (he : fe ρ t = some (.fro (.list xs), t)) (h : TrOk n t) (hn : n ≤ 1000000000) (hx : xs ≠ []) (hl : xs.length < 1000000) :
    ∃ (x : PyData) (t' : Tr), mCallT [true] f__law_pick (mCons (mV 0) (mCons fe mNil)) ρ t = some (.fro x, t') ∧ TrOk (n + 1) t' ∧ x ∈ xs := by
  obtain ⟨x, t', e, h', hx'⟩ := pick h hn hx hl
  exact ⟨x, t', ev_callT (ev_cons (mV_tray h0) (ev_cons he ev_nil)) rfl e, h', hx'⟩
theorem pick_call2 {n : Int} {t t1 : Tr} {ρ : Env} {fe : ME Tr} {xs : List PyData} (h0 : ρ[0]? = some (some (.tray 0))) (he : fe ρ t = some (.fro (.list xs), t1)) (h : TrOk n t1) (hn : n ≤ 1000000000) (hx : xs ≠ []) (hl : xs.length < 1000000) :
    ∃ (x : PyData) (t' : Tr), mCallT [true] f__law_pick (mCons (mV 0) (mCons fe mNil)) ρ t = some (.fro x, t') ∧ TrOk (n + 1) t' ∧ x ∈ xs := by
  obtain ⟨x, t', e, h', hx'⟩ := pick h hn hx hl
  exact ⟨x, t', ev_callT (ev_cons (mV_tray h0) (ev_cons he ev_nil)) rfl e, h', hx'⟩
theorem draw_callI {n : Int} {t : Tr} {m i : Nat} {ρ : Env} {fe : ME Tr} {r0 : Rv} (h0 : ρ[i]? = some (some (.tray 0))) (he : fe ρ t = some (r0, t)) (hr : rd ρ r0 = some (.int m)) (hf : argOf ρ true r0 = some (.int m)) (h : TrOk n t) (hn : n ≤ 1000000000) (hm : m < 2 ^ 4000) :
    ∃ (r : Nat) (t' : Tr), mCallT [true] f__law_draw (mCons (mV i) (mCons fe mNil)) ρ t = some (.fro (.int r), t') ∧ TrOk (n + 1) t' ∧ (r < m ∨ (m < 2 ∧ r = 0)) := by
  obtain ⟨r, t', e, h', hr'⟩ := draw h hn hm
  refine ⟨r, t', ev_callT (ev_cons (mV_tray h0) (ev_cons he ev_nil)) ?_ e, h', hr'⟩
  unfold args
  rw [hf]
  rfl
theorem pick_callI {n : Int} {t t1 : Tr} {i : Nat} {ρ : Env} {fe : ME Tr} {xs : List PyData} (h0 : ρ[i]? = some (some (.tray 0))) (he : fe ρ t = some (.fro (.list xs), t1)) (h : TrOk n t1) (hn : n ≤ 1000000000) (hx : xs ≠ []) (hl : xs.length < 1000000) :
    ∃ (x : PyData) (t' : Tr), mCallT [true] f__law_pick (mCons (mV i) (mCons fe mNil)) ρ t = some (.fro x, t') ∧ TrOk (n + 1) t' ∧ x ∈ xs := by
  obtain ⟨x, t', e, h', hx'⟩ := pick h hn hx hl
  exact ⟨x, t', ev_callT (ev_cons (mV_tray h0) (ev_cons he ev_nil)) rfl e, h', hx'⟩
section
variable {size many : Nat}
def envM (size many : Nat) (rows : List (List (Nat × Nat))) (way state : Nat) (row : List (Nat × Nat)) (x7 x8 : Option Val) : Env :=
  [some (.tray 0), some (.bor (.int size)), some (.bor (.int many)), some (.own (.list (rows.map rowD))), some (.fro (.int way)), some (.fro (.int state)), some (.own (.list (row.map pairD))), x7, x8]
def mStep : MS Tr := mSeq (mSet 8 (mRv (mCallT [true] f__law_draw (mCons (mV 0) (mCons (mV 1) mNil)))))
  (mSeq (mIfS (mAnd (mTest (mBin eqD (mV 4) (mC (.int 1)))) (mTest (mBin gtD (mCallT [true] f__law_draw (mCons (mV 0) (mCons (mC (.int 3)) mNil))) (mC (.int 0))))) (mSet 8 (mRv (mCallT [true] f__law_pick (mCons (mV 0) (mCons (mKeep (mLst (mCons (mV 5) (mCons (mBin modD (mCall intD (mCons (mBin addD (mV 5) (mC (.int 1))) mNil)) (mV 1)) mNil)))) mNil))))) mSkip)
  (mApp 6 (mTup (mCons (mV 8) (mCons (mCallT [true] f__law_draw (mCons (mV 0) (mCons (mC (.int 2)) mNil))) mNil)))))
theorem step {n : Int} {t : Tr} {rows : List (List (Nat × Nat))} {way state letter : Nat} {row : List (Nat × Nat)} {x8 : Option Val} (h : TrOk n t) (hn : n ≤ 900000000) (hs : 0 < size) (hz : size ≤ 1000) (hst : state < size) (hr : row.length < 1000) :
    ∃ (p : Nat × Nat) (x8' : Option Val) (t' : Tr), mStep (envM size many rows way state row (some (.fro (.int letter))) x8) t = some (.nx (envM size many rows way state (row ++ [p]) (some (.fro (.int letter))) x8'), t') ∧ TrOk (n + 4) t' ∧ p.1 < size ∧ p.2 < 2 := by
  obtain ⟨g, t1, e1, h1, b1⟩ := draw_call (ρ := envM size many rows way state row (some (.fro (.int letter))) x8) (fe := mV 1) (m := size) rfl rfl rfl rfl h (by omega) (pow_small (by omega))
  have b1 : g < size := by omega
  have s1 : mSet 8 (mRv (mCallT [true] f__law_draw (mCons (mV 0) (mCons (mV 1) mNil)))) (envM size many rows way state row (some (.fro (.int letter))) x8) t = some (.nx (envM size many rows way state row (some (.fro (.int letter))) (some (.fro (.int g)))), t1) := ev_set (ev_rv e1)
  obtain ⟨g', t2, e2, h2, b2⟩ : ∃ (g' : Nat) (t2 : Tr), mIfS (mAnd (mTest (mBin eqD (mV 4) (mC (.int 1)))) (mTest (mBin gtD (mCallT [true] f__law_draw (mCons (mV 0) (mCons (mC (.int 3)) mNil))) (mC (.int 0))))) (mSet 8 (mRv (mCallT [true] f__law_pick (mCons (mV 0) (mCons (mKeep (mLst (mCons (mV 5) (mCons (mBin modD (mCall intD (mCons (mBin addD (mV 5) (mC (.int 1))) mNil)) (mV 1)) mNil)))) mNil))))) mSkip
      (envM size many rows way state row (some (.fro (.int letter))) (some (.fro (.int g)))) t1 = some (.nx (envM size many rows way state row (some (.fro (.int letter))) (some (.fro (.int g')))), t2) ∧ TrOk (n + 3) t2 ∧ g' < size := by
    have c1 : mTest (mBin eqD (mV 4) (mC (.int 1))) (envM size many rows way state row (some (.fro (.int letter))) (some (.fro (.int g)))) t1 = some (((way : Int) == 1), t1) := ev_test (ev_bin (r1 := .fro (.int way)) rfl (r2 := .fro (.int 1)) rfl rfl rfl rfl)
    cases hw : ((way : Int) == 1) with
    | false =>
      rw [hw] at c1
      exact ⟨g, t1, by rw [if_f (ev_andF c1)]; rfl, h1.mono (by omega), b1⟩
    | true =>
      rw [hw] at c1
      obtain ⟨k, t2, e2, h2, b2⟩ := draw_call (ρ := envM size many rows way state row (some (.fro (.int letter))) (some (.fro (.int g)))) (fe := mC (.int 3)) (m := 3) rfl rfl rfl rfl h1 (by omega) (pow_small (by omega))
      have c2 : mTest (mBin gtD (mCallT [true] f__law_draw (mCons (mV 0) (mCons (mC (.int 3)) mNil))) (mC (.int 0))) (envM size many rows way state row (some (.fro (.int letter))) (some (.fro (.int g)))) t1 = some (decide ((0 : Int) < k), t2) := ev_test (ev_bin e2 (r2 := .fro (.int 0)) rfl rfl rfl rfl)
      cases hk : decide ((0 : Int) < k) with
      | false =>
        rw [hk] at c2
        exact ⟨g, t2, by rw [if_f (ev_andT c1 c2)]; rfl, h2.mono (by omega), b1⟩
      | true =>
        rw [hk] at c2
        have l1 : mKeep (mLst (mCons (mV 5) (mCons (mBin modD (mCall intD (mCons (mBin addD (mV 5) (mC (.int 1))) mNil)) (mV 1)) mNil))) (envM size many rows way state row (some (.fro (.int letter))) (some (.fro (.int g)))) t2 = some (.fro (.list [.int state, .int (((state : Int) + 1) % size)]), t2) :=
          ev_keep (ev_lst (rs := [.fro (.int state), .fro (.int (((state : Int) + 1) % size))]) (ev_cons rfl (ev_cons (ev_bin (ev_call (ev_cons (ev_bin (r1 := .fro (.int state)) rfl (r2 := .fro (.int 1)) rfl rfl rfl rfl) ev_nil) rfl (z := .int ((state : Int) + 1)) rfl) (r2 := .fro (.int size)) rfl rfl rfl (mod_ok (by omega))) ev_nil)) rfl (by show 2 ≤ sizeLine; decide))
        obtain ⟨x, t3, e3, h3, hx⟩ := pick_call (ρ := envM size many rows way state row (some (.fro (.int letter))) (some (.fro (.int g)))) rfl l1 h2 (by omega) (by simp) (by show 2 < 1000000; decide)
        obtain ⟨g', rfl, hg'⟩ : ∃ g' : Nat, x = .int g' ∧ g' < size := by
          rcases List.mem_cons.mp hx with rfl | hx
          · exact ⟨state, rfl, hst⟩
          · cases List.mem_singleton.mp hx
            refine ⟨(state + 1) % size, ?_, Nat.mod_lt _ hs⟩
            congr 1
        exact ⟨g', t3, by rw [if_t (ev_andT c1 c2)]; exact ev_set (ev_rv e3), h3.mono (by omega), hg'⟩
  obtain ⟨b, t3, e3, h3, b3⟩ := draw_call (ρ := envM size many rows way state row (some (.fro (.int letter))) (some (.fro (.int g')))) (fe := mC (.int 2)) (m := 2) rfl rfl rfl rfl h2 (by omega) (pow_small (by omega))
  refine ⟨(g', b), some (.fro (.int g')), t3, ?_, h3.mono (by omega), b2, by omega⟩
  unfold mStep
  rw [seq_nx s1, seq_nx e2]
  rw [ev_app (ds := row.map pairD) (ev_tup (ds := [.int g', .int b]) (ev_cons (r := .fro (.int g')) rfl (ev_cons e3 ev_nil)) rfl (by show 2 ≤ sizeLine; decide)) rfl (by rw [List.length_map]; exact Nat.lt_trans hr (by decide))]
  unfold envM
  rw [List.map_append]
  rfl
theorem row_loop {n : Int} {t : Tr} {rows : List (List (Nat × Nat))} {way state : Nat} {x7 x8 : Option Val} (h : TrOk n t) (hn : n ≤ 800000000) (hs : 0 < size) (hz : size ≤ 1000) (hst : state < size) (hm : many ≤ 3) :
    ∃ (row : List (Nat × Nat)) (y7 y8 : Option Val) (t' : Tr), mFor (mRange1 (mCons (mBin shlD (mC (.int 1)) (mV 2)) mNil)) (gN 7) mStep (envM size many rows way state [] x7 x8) t = some (.nx (envM size many rows way state row y7 y8), t') ∧ OkRow many size row ∧ TrOk (n + 32) t' := by
  have hp : 2 ^ many ≤ 8 := Nat.le_trans (Nat.pow_le_pow_right (by decide) hm) (by decide)
  have hi : mRange1 (mCons (mBin shlD (mC (.int 1)) (mV 2)) mNil) (envM size many rows way state [] x7 x8) t = some ((List.range (2 ^ many)).map fun (k : Nat) => PyData.int (k : Int), t) := by
    have e1 : shlD (.int 1) (.int many) = some (.int ((2 ^ many : Nat) : Int)) := by
      have b1 : Builtin.Int.intBits 1 ≤ 1 := bits_le (by decide)
      have : shlD (.int 1) (.int many) = some (.int (1 * 2 ^ (many : Int).toNat)) := if_pos ⟨by omega, by omega⟩
      rw [this, Int.toNat_natCast, Int.one_mul]
      push_cast
      rfl
    generalize 2 ^ many = N at e1 hp
    have e2 := ev_range1 (T := Tr) (ga := mCons (mBin shlD (mC (.int 1)) (mV 2)) mNil) (ρ := envM size many rows way state [] x7 x8) (t := t) (t1 := t) (j := (N : Int)) (ev_cons (ev_bin (r1 := .fro (.int 1)) rfl (r2 := .fro (.int many)) rfl rfl rfl e1) ev_nil) ⟨by omega, by omega⟩
    rw [Int.toNat_natCast] at e2
    exact e2
  obtain ⟨ρ', t', e, row, y7, y8, rfl, hl, hg, hb, ht⟩ := mFor_ind (g := gN 7) (body := mStep) (fun i ρ t => ∃ (row : List (Nat × Nat)) (y7 y8 : Option Val), ρ = envM size many rows way state row y7 y8 ∧ row.length = i ∧ (∀ p ∈ row, p.1 < size) ∧ (∀ p ∈ row, p.2 < 2) ∧ TrOk (n + 4 * i) t) hi ⟨[], x7, x8, rfl, rfl, fun _ h => (nomatch h), fun _ h => (nomatch h), h.mono (by omega)⟩ (by
    rintro j d ρ t hj ⟨row, y7, y8, rfl, hl, hg, hb, ht⟩
    have hjl : j < 2 ^ many := by
      have := (List.getElem?_eq_some_iff.mp hj).1
      rwa [List.length_map, List.length_range] at this
    rw [List.getElem?_map, List.getElem?_range hjl] at hj
    cases hj
    obtain ⟨p, x8', t2, e, h2, p1, p2⟩ := step (letter := j) (x8 := y8) (rows := rows) (way := way) (many := many) (row := row) ht (by omega) hs hz hst (by omega)
    refine ⟨_, _, t2, rfl, e, row ++ [p], _, _, rfl, by rw [List.length_append, hl]; rfl, fun q hq => ?_, fun q hq => ?_, h2.mono (by omega)⟩
    · rcases List.mem_append.mp hq with hq | hq
      · exact hg q hq
      · cases List.mem_singleton.mp hq; exact p1
    · rcases List.mem_append.mp hq with hq | hq
      · exact hb q hq
      · cases List.mem_singleton.mp hq; exact p2)
  rw [List.length_map, List.length_range] at hl ht
  exact ⟨row, y7, y8, t', e, ⟨hl, hg, hb⟩, ht.mono (by omega)⟩
def mRow : MS Tr := mSeq (mSet 6 (mNew (mLst mNil))) (mSeq (mFor (mRange1 (mCons (mBin shlD (mC (.int 1)) (mV 2)) mNil)) (gN 7) mStep) (mApp 3 (mCall tupleD (mCons (mV 6) mNil))))
theorem machine {n : Int} {t : Tr} (h : TrOk n t) (hn : n ≤ 700000000) (hs : 0 < size) (hz : size ≤ 100) (hm : many ≤ 3) :
    ∃ (M : List (List (Nat × Nat))) (t' : Tr), f__law_machine t [.int size, .int many] = some (machD many M, t') ∧ M.length = size ∧ OkM many M ∧ TrOk (n + 3300) t' := by
  obtain ⟨w, t1, e1, h1, _⟩ := draw_call (ρ := [some (.tray 0), some (.bor (.int size)), some (.bor (.int many)), none, none, none, none, none, none]) (fe := mC (.int 3)) (m := 3) rfl rfl rfl rfl h (by omega) (pow_small (by omega))
  have s1 : mPar 3 4 (mConsV (mNew (mLst mNil)) (mConsV (mRv (mCallT [true] f__law_draw (mCons (mV 0) (mCons (mC (.int 3)) mNil)))) mNilV)) [some (.tray 0), some (.bor (.int size)), some (.bor (.int many)), none, none, none, none, none, none] t =
      some (.nx [some (.tray 0), some (.bor (.int size)), some (.bor (.int many)), some (.own (.list [])), some (.fro (.int w)), none, none, none, none], t1) := ev_par (ev_consV (ev_new (ev_lst ev_nil rfl (Nat.zero_le _))) (ev_consV (ev_rv e1) rfl))
  obtain ⟨ρ', t', e, M, x5, x6, x7, x8, rfl, hl, ho, ht⟩ := mFor_ind (T := Tr) (its := mRange1 (mCons (mV 1) mNil)) (g := gN 5) (body := mRow) (ρ := [some (.tray 0), some (.bor (.int size)), some (.bor (.int many)), some (.own (.list [])), some (.fro (.int w)), none, none, none, none]) (t := t1) (t1 := t1) (ds := (List.range size).map fun (k : Nat) => PyData.int (k : Int))
    (fun i ρ t => ∃ (M : List (List (Nat × Nat))) (x5 x6 x7 x8 : Option Val), ρ = [some (.tray 0), some (.bor (.int size)), some (.bor (.int many)), some (.own (.list (M.map rowD))), some (.fro (.int w)), x5, x6, x7, x8] ∧ M.length = i ∧ (∀ r ∈ M, OkRow many size r) ∧ TrOk (n + 1 + 32 * i) t)
    (by
      have := ev_range1 (T := Tr) (ga := mCons (mV 1) mNil) (ρ := [some (.tray 0), some (.bor (.int size)), some (.bor (.int many)), some (.own (.list [])), some (.fro (.int w)), none, none, none, none]) (t := t1) (t1 := t1) (j := (size : Int)) rfl ⟨by omega, by omega⟩
      rw [Int.toNat_natCast] at this
      exact this)
    ⟨[], none, none, none, none, rfl, rfl, fun _ h => (nomatch h), h1.mono (by omega)⟩ (by
    rintro j d ρ t hj ⟨M, x5, x6, x7, x8, rfl, hl, ho, ht⟩
    have hjl : j < size := by
      have := (List.getElem?_eq_some_iff.mp hj).1
      rwa [List.length_map, List.length_range] at this
    rw [List.getElem?_map, List.getElem?_range hjl] at hj
    cases hj
    have q1 : mSet 6 (mNew (mLst mNil)) [some (.tray 0), some (.bor (.int size)), some (.bor (.int many)), some (.own (.list (M.map rowD))), some (.fro (.int w)), some (.fro (.int j)), x6, x7, x8] t = some (.nx (envM size many M w j [] x7 x8), t) := ev_set (ev_new (ev_lst ev_nil rfl (Nat.zero_le _)))
    obtain ⟨row, y7, y8, t2, q2, hr, h2⟩ := row_loop (rows := M) (way := w) (x7 := x7) (x8 := x8) ht (by omega) hs (by omega) hjl hm
    have q3 : mApp 3 (mCall tupleD (mCons (mV 6) mNil)) (envM size many M w j row y7 y8) t2 = some (.nx [some (.tray 0), some (.bor (.int size)), some (.bor (.int many)), some (.own (.list ((M ++ [row]).map rowD))), some (.fro (.int w)), some (.fro (.int j)), some (.own (.list (row.map pairD))), y7, y8], t2) := by
      rw [ev_app (ds := M.map rowD) (ev_call (ev_cons (r := .loan 6) rfl ev_nil) rfl (z := rowD row) rfl) rfl (by rw [List.length_map]; exact Nat.lt_of_le_of_lt (show M.length ≤ 100 by omega) (by decide)), List.map_append]
      rfl
    refine ⟨_, _, t2, rfl, ?_, M ++ [row], some (.fro (.int j)), some (.own (.list (row.map pairD))), y7, y8, rfl, by rw [List.length_append, hl]; rfl, fun r hr' => ?_, h2.mono (by omega)⟩
    · show mRow [some (.tray 0), some (.bor (.int size)), some (.bor (.int many)), some (.own (.list (M.map rowD))), some (.fro (.int w)), some (.fro (.int j)), x6, x7, x8] t = _
      unfold mRow
      rw [seq_nx q1, seq_nx q2, q3]
    · rcases List.mem_append.mp hr' with hr' | hr'
      · exact ho r hr'
      · cases List.mem_singleton.mp hr'; exact hr)
  rw [List.length_map, List.length_range] at hl ht
  refine ⟨M, t', ?_, hl, ⟨by omega, fun r hr => by rw [hl]; exact ho r hr⟩, ht.mono (by omega)⟩
  have s3 : mRet (T := Tr) (mTup (mCons (mV 2) (mCons (mCall tupleD (mCons (mV 3) mNil)) mNil))) [some (.tray 0), some (.bor (.int size)), some (.bor (.int many)), some (.own (.list (M.map rowD))), some (.fro (.int w)), x5, x6, x7, x8] t' = some (.rt (machD many M), t') :=
    ev_ret (ev_tup (ds := [.int many, .tuple (M.map rowD)]) (ev_cons (r := .fro (.int many)) rfl (ev_cons (ev_call (ev_cons (r := .loan 3) rfl ev_nil) rfl (z := .tuple (M.map rowD)) rfl) ev_nil)) rfl (by show 2 ≤ sizeLine; decide))
  have all : mSeq (mPar 3 4 (mConsV (mNew (mLst mNil)) (mConsV (mRv (mCallT [true] f__law_draw (mCons (mV 0) (mCons (mC (.int 3)) mNil)))) mNilV))) (mSeq (mFor (mRange1 (mCons (mV 1) mNil)) (gN 5) mRow) (mRet (mTup (mCons (mV 2) (mCons (mCall tupleD (mCons (mV 3) mNil)) mNil))))) [some (.tray 0), some (.bor (.int size)), some (.bor (.int many)), none, none, none, none, none, none] t = some (.rt (machD many M), t') := by
    rw [seq_nx s1, seq_nx e, s3]
  unfold f__law_machine mFunT m__law_machine
  unfold mRow mStep at all
  rw [show entryT 9 [true, true] [.int (size : Int), .int (many : Int)] = [some (.tray 0), some (.bor (.int size)), some (.bor (.int many)), none, none, none, none, none, none] from rfl, all]
end
end TA
end Mi
/-! Runs of machines. -/
namespace Mi
open PySem L2
def bitN (w p : Nat) : Nat := w / 2 ^ p % 2
def letA (p : Nat) : List Nat → Nat → Nat
  | [], _ => 0
  | w :: r, j => bitN w p * 2 ^ j + letA p r (j + 1)
def strN (width : Nat) (ws : List Nat) : List Nat := (List.range width).map fun p => letA p ws 0
def cell (M : List (List (Nat × Nat))) (s l : Nat) : Nat × Nat := (M.getD s []).getD l (0, 0)
def runS (M : List (List (Nat × Nat))) : Nat → List Nat → Nat
  | s, [] => s
  | s, l :: r => runS M (cell M s l).1 r
def outW (M : List (List (Nat × Nat))) : Nat → List Nat → Nat → Nat
  | _, [], _ => 0
  | s, l :: r, i => (cell M s l).2 * 2 ^ i + outW M (cell M s l).1 r (i + 1)
theorem letA_snoc (p w : Nat) : ∀ (ws : List Nat) (j : Nat), letA p (ws ++ [w]) j = letA p ws j + bitN w p * 2 ^ (j + ws.length)
  | [], j => by show bitN w p * 2 ^ j + 0 = 0 + bitN w p * 2 ^ j; omega
  | v :: r, j => by
    rw [List.cons_append]
    show bitN v p * 2 ^ j + letA p (r ++ [w]) (j + 1) = bitN v p * 2 ^ j + letA p r (j + 1) + _
    rw [letA_snoc p w r, List.length_cons, show j + 1 + r.length = j + (r.length + 1) from by omega]
    omega
theorem bitN_lt (w p : Nat) : bitN w p < 2 := Nat.mod_lt _ (by decide)
theorem letA_lt (p : Nat) : ∀ (ws : List Nat) (j : Nat), letA p ws j + 2 ^ j ≤ 2 ^ (j + ws.length)
  | [], j => by show 0 + 2 ^ j ≤ 2 ^ j; omega
  | v :: r, j => by
    have ih := letA_lt p r (j + 1)
    have b := bitN_lt v p
    have e : bitN v p * 2 ^ j ≤ 2 ^ j := by
      have : bitN v p ≤ 1 := by omega
      calc bitN v p * 2 ^ j ≤ 1 * 2 ^ j := Nat.mul_le_mul_right _ this
        _ = 2 ^ j := Nat.one_mul _
    rw [List.length_cons, show j + (r.length + 1) = j + 1 + r.length from by omega]
    show bitN v p * 2 ^ j + letA p r (j + 1) + 2 ^ j ≤ _
    have : 2 ^ (j + 1) = 2 ^ j + 2 ^ j := by rw [Nat.pow_succ]; omega
    omega
theorem letA_lt0 (p : Nat) (ws : List Nat) : letA p ws 0 < 2 ^ ws.length := by
  have := letA_lt p ws 0
  rw [Nat.zero_add] at this
  omega
theorem runS_snoc (M : List (List (Nat × Nat))) (l : Nat) : ∀ (xs : List Nat) (s : Nat), runS M s (xs ++ [l]) = (cell M (runS M s xs) l).1
  | [], s => rfl
  | x :: r, s => runS_snoc M l r _
theorem runS_append (M : List (List (Nat × Nat))) (ys : List Nat) : ∀ (xs : List Nat) (s : Nat), runS M s (xs ++ ys) = runS M (runS M s xs) ys
  | [], s => rfl
  | x :: r, s => runS_append M ys r _
theorem outW_snoc (M : List (List (Nat × Nat))) (l : Nat) : ∀ (xs : List Nat) (s i : Nat), outW M s (xs ++ [l]) i = outW M s xs i + (cell M (runS M s xs) l).2 * 2 ^ (i + xs.length)
  | [], s, i => by show (cell M s l).2 * 2 ^ i + 0 = 0 + (cell M s l).2 * 2 ^ i; omega
  | x :: r, s, i => by
    rw [List.cons_append]
    show (cell M s x).2 * 2 ^ i + outW M _ (r ++ [l]) (i + 1) = (cell M s x).2 * 2 ^ i + outW M _ r (i + 1) + _
    rw [outW_snoc M l r, List.length_cons, show i + 1 + r.length = i + (r.length + 1) from by omega]
    show _ = _ + (cell M (runS M (cell M s x).1 r) l).2 * _
    omega
/-- letters that the machine has -/
def OkS (many : Nat) (xs : List Nat) : Prop := ∀ l ∈ xs, l < 2 ^ many
section
variable {many : Nat} {M : List (List (Nat × Nat))}
theorem cell_at (ok : OkM many M) {s l : Nat} (hs : s < M.length) (hl : l < 2 ^ many) : ∃ row, M[s]? = some row ∧ row[l]? = some (cell M s l) ∧ (cell M s l).1 < M.length ∧ (cell M s l).2 < 2 := by
  have h1 : M[s]? = some M[s] := List.getElem?_eq_getElem hs
  have r := ok.row M[s] (List.getElem_mem hs)
  have hl2 : l < M[s].length := by rw [r.len]; exact hl
  have h2 : M[s][l]? = some M[s][l] := List.getElem?_eq_getElem hl2
  have e : cell M s l = M[s][l] := by
    unfold cell
    rw [List.getD_eq_getElem?_getD (l := M), h1, Option.getD_some, List.getD_eq_getElem?_getD, h2, Option.getD_some]
  rw [e]
  exact ⟨_, h1, h2, r.goal _ (List.getElem_mem hl2), r.bit _ (List.getElem_mem hl2)⟩
theorem runS_lt (ok : OkM many M) : ∀ (xs : List Nat) (s : Nat), s < M.length → OkS many xs → runS M s xs < M.length
  | [], s, h, _ => h
  | x :: r, s, h, o => by
    obtain ⟨_, _, _, h2, _⟩ := cell_at ok h (o x (List.mem_cons_self ..))
    exact runS_lt ok r _ h2 fun l m => o l (List.mem_cons_of_mem _ m)
theorem outW_lt (ok : OkM many M) : ∀ (xs : List Nat) (s i : Nat), s < M.length → OkS many xs → outW M s xs i + 2 ^ i ≤ 2 ^ (i + xs.length)
  | [], s, i, _, _ => by show 0 + 2 ^ i ≤ 2 ^ i; omega
  | x :: r, s, i, h, o => by
    obtain ⟨_, _, _, h2, h3⟩ := cell_at ok h (o x (List.mem_cons_self ..))
    have ih := outW_lt ok r _ (i + 1) h2 fun l m => o l (List.mem_cons_of_mem _ m)
    have e : (cell M s x).2 * 2 ^ i ≤ 2 ^ i := by
      have : (cell M s x).2 ≤ 1 := by omega
      calc (cell M s x).2 * 2 ^ i ≤ 1 * 2 ^ i := Nat.mul_le_mul_right _ this
        _ = 2 ^ i := Nat.one_mul _
    rw [List.length_cons, show i + (r.length + 1) = i + 1 + r.length from by omega]
    show (cell M s x).2 * 2 ^ i + outW M _ r (i + 1) + 2 ^ i ≤ _
    have : 2 ^ (i + 1) = 2 ^ i + 2 ^ i := by rw [Nat.pow_succ]; omega
    omega
theorem row_at {s l : Nat} {row : List (Nat × Nat)} (h1 : M[s]? = some row) : ixD (.tuple (M.map rowD)) (.int s) = some (rowD row) := atI_nat (by rw [List.getElem?_map, h1]; rfl)
theorem pair_at {l : Nat} {row : List (Nat × Nat)} {p : Nat × Nat} (h1 : row[l]? = some p) : ixD (rowD row) (.int l) = some (pairD p) := atI_nat (by rw [List.getElem?_map, h1]; rfl)
end
/-- or of what has no bit in common -/
theorem or_add {a b i : Nat} (h : a < 2 ^ i) : Builtin.bitOr (a : Int) ((b * 2 ^ i : Nat) : Int) = ((a + b * 2 ^ i : Nat) : Int) := by
  rw [Bits.bitOr_pp (by omega) (by omega), Int.toNat_natCast, Int.toNat_natCast, Nat.or_comm, Nat.mul_comm b, ← Nat.two_pow_add_eq_or_of_lt h, Nat.add_comm]
theorem and_one (w p : Nat) : Builtin.bitAnd ((w : Int) / 2 ^ p) 1 = ((bitN w p : Nat) : Int) := by
  rw [PyProof.Rows.bitAnd_m1]
  unfold bitN
  push_cast
  rfl
/-! ### the lower bits -/
theorem bitN_low {w p L : Nat} (h : p < L) : bitN (w % 2 ^ L) p = bitN w p := by
  unfold bitN
  rw [← Nat.toNat_testBit, ← Nat.toNat_testBit, Nat.testBit_mod_two_pow, decide_eq_true h, Bool.true_and]
theorem letA_low {p L : Nat} (h : p < L) : ∀ (ws : List Nat) (j : Nat), letA p (ws.map (· % 2 ^ L)) j = letA p ws j
  | [], _ => rfl
  | w :: r, j => by
    rw [List.map_cons]
    show bitN (w % 2 ^ L) p * 2 ^ j + letA p (r.map (· % 2 ^ L)) (j + 1) = bitN w p * 2 ^ j + letA p r (j + 1)
    rw [bitN_low h, letA_low h r]
theorem strN_low {L width : Nat} (h : L ≤ width) (ws : List Nat) : strN L (ws.map (· % 2 ^ L)) = (strN width ws).take L := by
  unfold strN
  rw [← List.map_take, List.take_range, Nat.min_eq_left h]
  exact List.map_congr_left fun p hp => letA_low (List.mem_range.mp hp) ws 0
theorem outW_shift (M : List (List (Nat × Nat))) : ∀ (xs : List Nat) (s i : Nat), outW M s xs i = 2 ^ i * outW M s xs 0
  | [], _, i => by show 0 = 2 ^ i * 0; omega
  | x :: r, s, i => by
    show (cell M s x).2 * 2 ^ i + outW M _ r (i + 1) = 2 ^ i * ((cell M s x).2 * 2 ^ 0 + outW M _ r (0 + 1))
    rw [outW_shift M r _ (i + 1), outW_shift M r _ (0 + 1), Nat.mul_add, Nat.pow_zero, Nat.mul_one, Nat.mul_comm (2 ^ i), Nat.pow_succ, Nat.zero_add, Nat.pow_one, Nat.mul_assoc]
theorem outW_append (M : List (List (Nat × Nat))) (ys : List Nat) : ∀ (xs : List Nat) (s i : Nat), outW M s (xs ++ ys) i = outW M s xs i + outW M (runS M s xs) ys (i + xs.length)
  | [], s, i => by show outW M s ys i = 0 + outW M s ys i; omega
  | x :: r, s, i => by
    rw [List.cons_append]
    show (cell M s x).2 * 2 ^ i + outW M _ (r ++ ys) (i + 1) = (cell M s x).2 * 2 ^ i + outW M _ r (i + 1) + outW M (runS M (cell M s x).1 r) ys (i + (r.length + 1))
    rw [outW_append M ys r, show i + (r.length + 1) = i + 1 + r.length from by omega]
    omega
theorem outW_low {many : Nat} {M : List (List (Nat × Nat))} (ok : OkM many M) {xs : List Nat} (o : OkS many xs) {L : Nat} (h : L ≤ xs.length) : outW M 0 (xs.take L) 0 = outW M 0 xs 0 % 2 ^ L := by
  have e := outW_append M (xs.drop L) (xs.take L) 0 0
  rw [List.take_append_drop, outW_shift M (xs.drop L), Nat.zero_add, List.length_take, Nat.min_eq_left h] at e
  have l := outW_lt ok (xs.take L) 0 0 ok.pos fun k m => o k (List.mem_of_mem_take m)
  rw [Nat.zero_add, List.length_take, Nat.min_eq_left h] at l
  rw [e, Nat.add_mul_mod_self_left, Nat.mod_eq_of_lt (by omega)]
end Mi
/-! How long the repr of data is. -/
namespace Mi
open PySem L2
mutual
def plainD : PyData → Bool
  | .none => true
  | .bool _ => true
  | .int i => decide (i.natAbs.log2 < 1920)
  | .str x => x.cps.all (· < 1114112)
  | .list xs => plainA xs
  | .tuple xs => plainA xs
  | .dict _ => false
def plainA : List PyData → Bool
  | [] => true
  | x :: r => plainD x && plainA r
end
mutual
def wtD : PyData → Nat
  | .none => 4
  | .bool _ => 5
  | .int _ => 1925
  | .str x => 10 * x.length + 2
  | .list xs => wtA xs + 4
  | .tuple xs => wtA xs + 4
  | .dict _ => 0
def wtA : List PyData → Nat
  | [] => 0
  | x :: r => wtD x + 2 + wtA r
end
theorem textFrom_le : ∀ (ts : List Str) (k : Nat) (acc : Str), (textFrom k acc ts).length ≤ acc.length + piled ts
  | [], _, acc => by
    show acc.length ≤ _
    omega
  | t :: r, k, acc => by
    have ih := textFrom_le r (k + 1) (acc ++ (if k > 0 then ", " else "" : String) ++ t)
    have e : (acc ++ (if k > 0 then ", " else "" : String) ++ t).length ≤ acc.length + 2 + t.length := by
      rw [strLen_append, strLen_append]
      have : (((if k > 0 then ", " else "" : String) : Str)).length ≤ 2 := by split <;> decide
      omega
    rw [piled_cons]
    show (textFrom (k + 1) (acc ++ (if k > 0 then ", " else "" : String) ++ t) r).length ≤ _
    omega
theorem listText_le (ts : List Str) : (listText ts).length ≤ piled ts + 4 := by
  have h := textFrom_le ts 0 "["
  unfold listText
  rw [strLen_append]
  have e1 : ((("[" : String) : Str)).length = 1 := rfl
  have e2 : ((("]" : String) : Str)).length = 1 := rfl
  omega
theorem tupleText_le (ts : List Str) : (tupleText ts).length ≤ piled ts + 4 := by
  unfold tupleText
  rw [strLen_append, strLen_append]
  have e1 : ((("(" : String) : Str)).length = 1 := rfl
  have e3 : (((if ts.length == 1 then ",)" else ")" : String) : Str)).length ≤ 2 := by split <;> decide
  have e2 : (Str.join ", " ts).length ≤ piled ts := by
    by_cases h : ts = []
    · subst h; exact Nat.le_of_eq rfl
    · have := join_length_add ts h
      omega
  omega
mutual
theorem shown_le : ∀ d : PyData, plainD d = true → d.shown.length ≤ wtD d
  | .none, _ => by show (("None" : String) : Str).length ≤ 4; decide
  | .bool true, _ => by show (("True" : String) : Str).length ≤ 5; decide
  | .bool false, _ => by show (("False" : String) : Str).length ≤ 5; decide
  | .int i, h => by
    have h := of_decide_eq_true (show decide (i.natAbs.log2 < 1920) = true from h)
    have := int_text_length_le (k := 1920) (by decide) h
    show (Str.ofString (toString i)).length ≤ 1925
    rw [ofString_length]
    omega
  | .str x, h => by
    have h : x.cps.all (· < 1114112) = true := h
    refine PySem.StrLaws.reprText_len x fun c hc => ?_
    have := of_decide_eq_true (Array.all_eq_true_iff_forall_mem.mp h c (Array.mem_toList_iff.mp hc))
    omega
  | .list xs, h => by
    have := shownA_le xs h
    exact Nat.le_trans (by rw [PyData.shown]; exact listText_le _) (show piled (PyData.shownAll xs) + 4 ≤ wtA xs + 4 by omega)
  | .tuple xs, h => by
    have := shownA_le xs h
    exact Nat.le_trans (by rw [PyData.shown]; exact tupleText_le _) (show piled (PyData.shownAll xs) + 4 ≤ wtA xs + 4 by omega)
  | .dict _, h => by cases h
theorem shownA_le : ∀ xs : List PyData, plainA xs = true → piled (PyData.shownAll xs) ≤ wtA xs
  | [], _ => by rw [PyData.shownAll]; exact Nat.le_refl 0
  | x :: r, h => by
    have h : (plainD x && plainA r) = true := h
    rw [Bool.and_eq_true] at h
    have h1 := shown_le x h.1
    have h2 := shownA_le r h.2
    rw [PyData.shownAll, piled_cons]
    show _ ≤ wtD x + 2 + wtA r
    omega
end
mutual
theorem plain_ok : ∀ d : PyData, plainD d = true → d.showable = true ∧ d.hasDict = false
  | .none, _ => ⟨rfl, rfl⟩
  | .bool _, _ => ⟨rfl, rfl⟩
  | .int i, h => ⟨h, rfl⟩
  | .str _, _ => ⟨rfl, rfl⟩
  | .list xs, h => by rw [PyData.showable, PyData.hasDict]; exact plainA_ok xs h
  | .tuple xs, h => by rw [PyData.showable, PyData.hasDict]; exact plainA_ok xs h
  | .dict _, h => by cases h
theorem plainA_ok : ∀ xs : List PyData, plainA xs = true → PyData.showableAll xs = true ∧ PyData.hasDictAll xs = false
  | [], _ => ⟨rfl, rfl⟩
  | x :: r, h => by
    have h : (plainD x && plainA r) = true := h
    rw [Bool.and_eq_true] at h
    have h1 := plain_ok x h.1
    have h2 := plainA_ok r h.2
    rw [PyData.showableAll, PyData.hasDictAll, h1.1, h1.2, h2.1, h2.2]
    exact ⟨rfl, rfl⟩
end
theorem repr_ok {d : PyData} (h : plainD d = true) (hd : d.depth ≤ 60) (hz : wtD d ≤ 16777216) : reprD [d] = some (.str d.shown) := by
  have h1 := plain_ok d h
  refine if_pos ⟨h1.1, Nat.le_trans (shown_le d h) hz, hd, fun z => ?_⟩
  rw [h1.2] at z
  cases z
theorem plain_nat {n : Nat} (h : n < 2 ^ 1900) : plainD (.int (n : Int)) = true := by
  refine decide_eq_true ?_
  rw [Int.natAbs_natCast]
  by_cases z : n = 0
  · subst z; decide
  · have : n.log2 < 1900 := (Nat.log2_lt z).mpr h
    omega
theorem plainA_map {α : Type} {f : α → PyData} : ∀ {xs : List α}, (∀ x ∈ xs, plainD (f x) = true) → plainA (xs.map f) = true
  | [], _ => rfl
  | x :: r, h => by
    show (plainD (f x) && plainA (r.map f)) = true
    rw [h x (List.mem_cons_self ..), plainA_map fun y m => h y (List.mem_cons_of_mem _ m)]
    rfl
theorem wtA_map {α : Type} {f : α → PyData} {w : Nat} : ∀ {xs : List α}, (∀ x ∈ xs, wtD (f x) ≤ w) → wtA (xs.map f) ≤ xs.length * (w + 2)
  | [], _ => Nat.zero_le _
  | x :: r, h => by
    have h1 := h x (List.mem_cons_self ..)
    have h2 := wtA_map (xs := r) fun y m => h y (List.mem_cons_of_mem _ m)
    show wtD (f x) + 2 + wtA (r.map f) ≤ _
    rw [List.length_cons, Nat.succ_mul]
    omega
theorem depthA_map {α : Type} {f : α → PyData} {k : Nat} : ∀ {xs : List α}, (∀ x ∈ xs, (f x).depth ≤ k) → PyData.depthAll (xs.map f) ≤ k
  | [], _ => by rw [List.map_nil, PyData.depthAll]; exact Nat.zero_le _
  | x :: r, h => by
    have h1 := h x (List.mem_cons_self ..)
    have h2 := depthA_map (xs := r) fun y m => h y (List.mem_cons_of_mem _ m)
    rw [List.map_cons, PyData.depthAll]
    exact Nat.max_le.mpr ⟨h1, h2⟩
theorem row_facts {many n : Nat} {r : List (Nat × Nat)} (h : OkRow many n r) (hn : n ≤ 1000) (hm : many ≤ 3) : plainD (rowD r) = true ∧ wtD (rowD r) ≤ 8 * 3860 + 4 ∧ (rowD r).depth ≤ 2 := by
  have small : ∀ k : Nat, k < 1000 → plainD (.int (k : Int)) = true := fun k hk => plain_nat (Nat.lt_of_lt_of_le (Nat.lt_trans hk (by decide : 1000 < 2 ^ 10)) (Nat.pow_le_pow_right (by decide) (by decide)))
  have hl : r.length ≤ 8 := by
    rw [h.len]
    exact Nat.le_trans (Nat.pow_le_pow_right (by decide) hm) (by decide)
  refine ⟨plainA_map fun p hp => ?_, ?_, ?_⟩
  · show (plainD (.int (p.1 : Nat)) && (plainD (.int (p.2 : Nat)) && true)) = true
    have := h.goal p hp
    have := h.bit p hp
    rw [small p.1 (by omega), small p.2 (by omega)]
    rfl
  · have := wtA_map (f := pairD) (w := 3858) (xs := r) fun p _ => Nat.le_refl 3858
    show wtA (r.map pairD) + 4 ≤ _
    omega
  · show (PyData.tuple (r.map pairD)).depth ≤ 2
    rw [PyData.depth]
    have := depthA_map (f := pairD) (k := 1) (xs := r) fun p _ => Nat.le_refl 1
    omega
theorem mach_facts {many : Nat} {M : List (List (Nat × Nat))} (ok : OkM many M) (hM : M.length ≤ 100) (hm : many ≤ 3) : plainD (machD many M) = true ∧ wtD (machD many M) ≤ 4000000 ∧ (machD many M).depth ≤ 4 := by
  have rf : ∀ r ∈ M, _ := fun r hr => row_facts (ok.row r hr) (by omega) hm
  have p1 : plainA (M.map rowD) = true := plainA_map fun r hr => (rf r hr).1
  have w1 := wtA_map (f := rowD) (w := 8 * 3860 + 4) (xs := M) fun r hr => (rf r hr).2.1
  have d1 := depthA_map (f := rowD) (k := 2) (xs := M) fun r hr => (rf r hr).2.2
  have pm : plainD (.int (many : Int)) = true := plain_nat (Nat.lt_of_lt_of_le (Nat.lt_of_le_of_lt hm (by decide : 3 < 2 ^ 10)) (Nat.pow_le_pow_right (by decide) (by decide)))
  refine ⟨?_, ?_, ?_⟩
  · show (plainD (.int (many : Nat)) && (plainA (M.map rowD) && true)) = true
    rw [pm, p1]
    rfl
  · show 1925 + 2 + (wtA (M.map rowD) + 4 + 2 + 0) + 4 ≤ 4000000
    have : M.length * (8 * 3860 + 4 + 2) ≤ 100 * (8 * 3860 + 4 + 2) := Nat.mul_le_mul_right _ hM
    omega
  · unfold machD
    rw [PyData.depth, PyData.depthAll, PyData.depthAll, PyData.depth, PyData.depthAll, PyData.depth]
    omega
end Mi
/-! Texts of data that are not too long; items in a drawn sequence. -/
namespace Mi
open PySem L2
def Sh (d : PyData) (w k : Nat) : Prop := plainD d = true ∧ wtD d ≤ w ∧ d.depth ≤ k
def ShA (ds : List PyData) (w k : Nat) : Prop := plainA ds = true ∧ wtA ds ≤ w ∧ PyData.depthAll ds ≤ k
theorem Sh.mono {d : PyData} {w k w' k' : Nat} (h : Sh d w k) (h1 : w ≤ w') (h2 : k ≤ k') : Sh d w' k' := ⟨h.1, Nat.le_trans h.2.1 h1, Nat.le_trans h.2.2 h2⟩
theorem Sh.repr {d : PyData} {w k : Nat} (h : Sh d w k) (h1 : w ≤ 16777216) (h2 : k ≤ 60) : reprD [d] = some (.str d.shown) := repr_ok h.1 (Nat.le_trans h.2.2 h2) (Nat.le_trans h.2.1 h1)
theorem pow_big {n k : Nat} (h : n < 2 ^ k) (hk : k ≤ 1900) : n < 2 ^ 1900 := Nat.lt_of_lt_of_le h (Nat.pow_le_pow_right (by decide) hk)
theorem sh_nat {n k : Nat} (h : n < 2 ^ k) (hk : k ≤ 1900) : Sh (.int (n : Int)) 1925 0 := ⟨plain_nat (pow_big h hk), Nat.le_refl _, by rw [PyData.depth]; exact Nat.le_refl 0⟩
theorem sh_str {x : Str} (h : x.cps.all (· < 1114112) = true) : Sh (.str x) (10 * x.length + 2) 0 := ⟨h, Nat.le_refl _, by rw [PyData.depth]; exact Nat.le_refl 0⟩
theorem sh_nil : ShA [] 0 0 := ⟨rfl, Nat.le_refl 0, by rw [PyData.depthAll]; exact Nat.le_refl 0⟩
theorem sh_cons {d : PyData} {ds : List PyData} {w w' k : Nat} (h : Sh d w k) (h2 : ShA ds w' k) : ShA (d :: ds) (w + 2 + w') k := by
  refine ⟨?_, ?_, ?_⟩
  · show (plainD d && plainA ds) = true
    rw [h.1, h2.1]
    rfl
  · have := h.2.1
    have := h2.2.1
    show wtD d + 2 + wtA ds ≤ _
    omega
  · rw [PyData.depthAll]
    exact Nat.max_le.mpr ⟨h.2.2, h2.2.2⟩
theorem sh_map {α : Type} {f : α → PyData} {w k : Nat} {xs : List α} (h : ∀ x ∈ xs, Sh (f x) w k) : ShA (xs.map f) (xs.length * (w + 2)) k := ⟨plainA_map fun x m => (h x m).1, wtA_map fun x m => (h x m).2.1, depthA_map fun x m => (h x m).2.2⟩
theorem sh_tup {ds : List PyData} {w k : Nat} (h : ShA ds w k) : Sh (.tuple ds) (w + 4) (k + 1) := by
  refine ⟨h.1, ?_, ?_⟩
  · have := h.2.1
    show wtA ds + 4 ≤ _
    omega
  · have := h.2.2
    rw [PyData.depth]
    omega
theorem sh_lst {ds : List PyData} {w k : Nat} (h : ShA ds w k) : Sh (.list ds) (w + 4) (k + 1) := by
  refine ⟨h.1, ?_, ?_⟩
  · have := h.2.1
    show wtA ds + 4 ≤ _
    omega
  · have := h.2.2
    rw [PyData.depth]
    omega
theorem ShA.mono {d : List PyData} {w k w' k' : Nat} (h : ShA d w k) (h1 : w ≤ w') (h2 : k ≤ k') : ShA d w' k' := ⟨h.1, Nat.le_trans h.2.1 h1, Nat.le_trans h.2.2 h2⟩
theorem sh_nats {xs : List Nat} {k : Nat} (h : ∀ x ∈ xs, x < 2 ^ k) (hk : k ≤ 1900) : ShA (natsD xs) (xs.length * 1927) 0 := sh_map fun x m => sh_nat (h x m) hk
theorem reprN {n k : Nat} (h : n < 2 ^ k) (hk : k ≤ 1900) : reprD [.int (n : Int)] = some (.str (PyData.int (n : Int)).shown) := (sh_nat h hk).repr (by decide) (by decide)
theorem ne_strs (x : Str) : neD (.str x) (.str x) = some (.bool false) := by
  show some (PyData.bool (!(x == x))) = _
  rw [show (x == x) = true from by simp]
  rfl
theorem eq_strs (x : Str) : eqD (.str x) (.str x) = some (.bool true) := by
  show some (PyData.bool (x == x)) = _
  rw [show (x == x) = true from by simp]
namespace RS
theorem u1_len (o : U1) : o.s.length ≤ 6 ∧ o.s.cps.all (· < 1114112) = true := by cases o <;> exact ⟨by decide, by decide +kernel⟩
theorem u2_len (o : U2) : o.s.length ≤ 6 ∧ o.s.cps.all (· < 1114112) = true := by cases o <;> exact ⟨by decide, by decide +kernel⟩
theorem sh_word {x : Str} (h : x.length ≤ 6 ∧ x.cps.all (· < 1114112) = true) : Sh (.str x) 62 0 := (sh_str h.2).mono (by omega) (Nat.le_refl 0)
theorem sh_ins {n : Nat} {I : Ins} (h : I.ok n) (hn : n ≤ 100000) : Sh (insD I) 50000 2 := by
  have sm : ∀ a, a < n → Sh (.int (a : Int)) 1925 0 := fun a ha => sh_nat (k := 20) (Nat.lt_of_lt_of_le ha (Nat.le_trans hn (by decide))) (by decide)
  cases I with
  | zero => exact (sh_tup (sh_cons (sh_word (x := "zero") ⟨by decide, by decide +kernel⟩) sh_nil)).mono (by decide) (by decide)
  | ones => exact (sh_tup (sh_cons (sh_word (x := "ones") ⟨by decide, by decide +kernel⟩) sh_nil)).mono (by decide) (by decide)
  | un o a => exact (sh_tup (sh_cons (sh_word (u1_len o)) (sh_cons (sm a h) sh_nil))).mono (by decide) (by decide)
  | bin o a b => exact (sh_tup (sh_cons (sh_word (u2_len o)) (sh_cons (sm a h.1) (sh_cons (sm b h.2) sh_nil)))).mono (by decide) (by decide)
  | mask bits =>
    have hb := sh_nats (xs := bits) (k := 1) (fun x m => by have := h.2.2 x m; omega) (by decide)
    have h1 := (sh_tup hb).mono (w' := 46300) (k' := 1) (by have := h.2.1; omega) (Nat.le_refl _)
    exact (sh_tup (sh_cons ((sh_word (x := "mask") ⟨by decide, by decide +kernel⟩).mono (Nat.le_refl _) (Nat.zero_le 1)) (sh_cons h1 (sh_nil.mono (Nat.le_refl _) (Nat.zero_le 1))))).mono (by decide) (by decide)
theorem sh_prog {many : Nat} {rows : List Ins} (ok : OkP many rows) (hm : many ≤ 10) : Sh (progD many rows) (rows.length * 50002 + 4000) 4 := by
  have h1 : ShA (rows.map insD) (rows.length * 50002) 2 := sh_map fun I m => by
    obtain ⟨j, hj⟩ := List.getElem?_of_mem m
    have := ok.few
    have := lt_at hj
    exact sh_ins (ok.ok j I hj) (by omega)
  exact (sh_tup (sh_cons ((sh_nat (n := many) (k := 10) (Nat.lt_of_le_of_lt hm (by decide)) (by decide)).mono (Nat.le_refl _) (Nat.zero_le 3)) (sh_cons (sh_tup h1) (sh_nil.mono (Nat.le_refl _) (Nat.zero_le 3))))).mono (by omega) (by decide)
end RS
namespace BA
local macro_rules | `(tactic| walk_at "op") => `(tactic| with_reducible first
  | exact o_add | exact o_addI | exact o_sub | exact o_lt | exact o_le | exact o_gt | exact o_ge | exact o_eqI | exact o_neI | exact o_eqS | exact o_neS | exact o_neg | exact o_inv | exact o_and | exact o_or | exact o_xor
  | exact o_int | exact o_intB | exact o_abs | exact o_tupL | exact o_tupT | exact o_lenL | exact o_lenT | exact o_isN | exact o_isNotN)
local macro_rules | `(tactic| walk_at "ix") => `(tactic| ((with_reducible apply o_ixA); (first | apply o_ixL | apply o_ixT | apply o_dixS); focus rfl))
local macro_rules | `(tactic| walk_at "op2") => `(tactic| first
  | ((with_reducible apply o_inA); focus rfl)
  | ((with_reducible apply o_notInA); focus rfl)
  | (with_reducible (first | refine o_addL ?_ | refine o_addT ?_); simp only [List.length_cons, List.length_nil]; decide)
  | ((with_reducible apply o_modA); focus (exact mod_ok (by decide)))
  | ((with_reducible apply o_fdivA); focus (exact o_fdiv (by decide) (by decide))))
local macro_rules | `(tactic| walk_at "call") => `(tactic| fail)
local macro_rules | `(tactic| walk_at "s") => `(tactic| first
  | ((with_reducible apply s_set_env); focus (dsimp only [List.set] <;> rfl))
  | ((with_reducible apply f_callPK); (focus rfl); (focus rfl))
  | with_reducible first
    | refine s_seq ?_ | refine d_f (f_bin ?_) | refine d_f (f_c ?_) | refine s_set ?_ | refine v_rv ?_ | refine s_if ?_ | refine b_test ?_ | refine f_bin ?_ | refine f_c ?_ | refine s_ret ?_ | refine s_skip ?_
    | refine r_cons ?_ | refine r_nil ?_ | refine a_consT ?_ | refine a_nil ?_ | refine k_cons ?_ | refine k_nil ?_ | refine a_consF ?_
    | refine f_call ?_ | refine f_callP ?_ | refine f_keep ?_ | refine f_tup ?_ | refine f_if ?_ | refine f_andV ?_ | refine f_orV ?_ | refine f_notV ?_ | refine f_isi ?_ | refine f_sl ?_ | refine f_un ?_ | refine f_chain ?_
    | refine b_and ?_ | refine b_or ?_ | refine b_not ?_ | refine b_yes ?_
    | refine s_asg ?_ | refine s_app ?_ | refine s_par ?_ | refine s_pars ?_ | refine s_drop ?_ | refine s_retN ?_ | refine s_break ?_ | refine s_cont ?_ | refine s_end ?_ | refine s_setP ?_ | refine s_dropP ?_ | refine s_appP ?_ | refine p_at ?_ | refine p_end ?_ | refine s_par3 ?_ | refine ex_three ?_ | refine i_zip ?_ | refine zz_L ?_ | refine zz_T ?_ | refine l_revL ?_ | refine ex_lst ?_
    | refine l_lst ?_ | refine l_dict ?_ | refine l_listL ?_ | refine o_no ?_ | refine o_part ?_ | refine i_enum ?_ | refine i_range1 ?_ | refine v_new ?_ | refine vs_nil ?_ | refine vs_cons ?_
  | ((with_reducible apply d_v); focus rfl)
  | ((with_reducible apply f_v); focus rfl)
  | ((with_reducible apply s_aug); focus rfl)
  | ((with_reducible apply f_callT); focus rfl)
  | ((with_reducible apply w_b); (focus rfl))
  | ((with_reducible apply i_itemsB); (focus rfl); (focus rfl))
  | with_reducible first | refine d_f ?_ | refine w_f ?_ | refine i_items ?_
  | ((with_reducible refine if_yes ?_ ?_); focus rfl)
  | ((with_reducible refine if_no ?_ ?_); focus rfl)
  | ((with_reducible apply op_ok); focus (first | walk_at "op" | walk_at "ix" | walk_at "op2"))
  | ((with_reducible refine len_ok ?_ ?_); focus (simp only [List.length_cons, List.length_nil]; decide))
  | ((with_reducible refine pk_ok ?_ ?_); focus rfl)
  | ((with_reducible refine lt_ok ?_ ?_); focus (simp only [List.length_append, List.length_cons, List.length_nil]; decide))
  | ((with_reducible refine dict_ok ?_ ?_); focus (exact ⟨rfl, by decide, by decide⟩))
  | ((with_reducible refine par_ok ?_ ?_); focus (refine ⟨?_, rfl⟩; simp only [List.length_cons, List.length_nil]; decide))
  | walk_at "call"
  | with_reducible first | refine ex_bool ?_ | refine ex_int ?_ | refine ex_itL ?_ | refine ex_itT ?_ | refine ex_rng ?_ | refine ex_two ?_ | refine ex_lstL ?_ | refine ex_lstT ?_
  | ((with_reducible apply ex_env); focus rfl)
  | ((with_reducible apply ex_own); focus rfl))
/-- items in a drawn sequence -/
theorem mixed {n : Int} {t : Tr} {xs : List PyData} {P : PyData → Tr → Prop} (h : TrOk n t) (hn : n ≤ 900000000) (hl : xs.length < 100) (q : ∀ (ys : List PyData) (t' : Tr), TrOk (n + 100) t' → ys.length = xs.length → (∀ y ∈ ys, y ∈ xs) → P (.list ys) t') : ∃ z t2, f__law_mixed t [.list xs] = some (z, t2) ∧ P z t2 := by
  refine funT_ok ?_
  refine s_env (ρ' := [some (.tray 0), some (.bor (.list xs)), none, none]) rfl ?_
  unfold m__law_mixed
  repeat (first | walk_at "s")
  refine s_while (fun k ρ t => ∃ (us ys : List PyData), ρ = [some (.tray 0), some (.bor (.list xs)), some (.own (.list us)), some (.own (.list ys))] ∧ us.length < k ∧ us.length + ys.length = xs.length ∧ (∀ y ∈ us, y ∈ xs) ∧ (∀ y ∈ ys, y ∈ xs) ∧ TrOk (n + ys.length) t) ⟨xs, [], rfl, hl, rfl, fun y m => m, by simp, h.mono (by simp)⟩ ?_
  rintro k ρ t ⟨us, ys, rfl, hk, hs, hu, hy, ht⟩
  repeat (first | with_reducible (first | refine op_ok (ne_nil us) ?_) | walk_at "s")
  refine if_both (fun hb => ?_) (fun hb => ?_)
  · have hne : us ≠ [] := by rintro rfl; cases hb
    have hpos : 0 < us.length := List.length_pos_iff.mpr hne
    cases k with
    | zero => omega
    | succ k =>
      refine ⟨k, rfl, ?_⟩
      repeat (first | walk_at "s")
      refine draw_ex ht (by omega) hpos (pow_small (by omega)) fun r t1 h1 hr => ?_
      repeat (first | walk_at "s")
      refine ⟨r, rfl, by omega, us[r], List.getElem?_eq_getElem hr, ?_⟩
      repeat (first | walk_at "s")
      refine ⟨⟨by decide, fits' (by omega)⟩, us.eraseIdx r, ys ++ [us[r]], rfl, ?_, ?_, fun y m => hu y (List.mem_of_mem_eraseIdx m), fun y m => ?_, ?_⟩
      · rw [List.length_eraseIdx_of_lt hr]; omega
      · rw [List.length_eraseIdx_of_lt hr, List.length_append, List.length_singleton]; omega
      · rcases List.mem_append.mp m with m | m
        · exact hy y m
        · cases List.mem_singleton.mp m; exact hu _ (List.getElem_mem hr)
      · rw [List.length_append, List.length_singleton]; exact h1.mono (by omega)
  · have hnil : us = [] := by
      cases us with
      | nil => rfl
      | cons u us => cases hb
    subst hnil
    refine ⟨by omega, ?_⟩
    refine s_retO rfl ?_
    rw [List.length_nil] at hs
    exact q ys t (ht.mono (by omega)) (by omega) hy
end BA
end Mi
namespace Mi.BA
open PySem L2

def m__law_bits : MS Unit :=
  (mSeq (mSet 2 (mNew (mLst mNil)))
  (mSeq (mFor (mRange1 (mCons (mV 1) mNil)) (gN 3) (mSeq (mApp 2 (mBin modD (mV 0) (mC (.int 2))))
  (mSet 0 (mRv (mBin fdivD (mV 0) (mC (.int 2)))))))
  (mRet (mV 2))))
def f__law_bits : List PyData → Option PyData := mFun 4 [true, true] m__law_bits

def m__law_word : MS Unit :=
  (mSeq (mSet 1 (mRv (mC (.int 0))))
  (mSeq (mFor (mItems (mKeep (mRevL (mV 0)))) (gN 2) (mSet 1 (mRv (mBin addD (mBin mulD (mC (.int 2)) (mV 1)) (mV 2)))))
  (mRet (mV 1))))
def f__law_word : List PyData → Option PyData := mFun 3 [true] m__law_word

def m__law_sum : MS Unit :=
  (mSeq (mSet 3 (mNew (mLst mNil)))
  (mSeq (mFor (mZip (mV 0) (mV 1)) (gT (gs1 (gN 4) (gs1 (gN 5) gs0)) 2) (mSeq (mApp 3 (mBin modD (mCall intD (mCons (mBin addD (mBin addD (mV 4) (mV 5)) (mV 2)) mNil)) (mC (.int 2))))
  (mSet 2 (mRv (mBin fdivD (mCall intD (mCons (mBin addD (mBin addD (mV 4) (mV 5)) (mV 2)) mNil)) (mC (.int 2)))))))
  (mRet (mV 3))))
def f__law_sum : List PyData → Option PyData := mFun 6 [true, true, true] m__law_sum

def m__law_value : MS Unit :=
  (mSeq (mSet 3 (mRv (mBin ixD (mV 0) (mC (.int 0)))))
  (mSeq (mIfS (mTest (mBin inD (mV 3) (mTup (mCons (mC (.str "zero")) (mCons (mC (.str "ones")) mNil))))) (mRet (mBin mulD (mKeep (mLst (mCons (mCall intD (mCons (mBin eqD (mV 3) (mC (.str "ones"))) mNil)) mNil))) (mV 2))) mSkip)
  (mSeq (mIfS (mTest (mBin eqD (mV 3) (mC (.str "mask")))) (mRet (mKeep (mLc (mRange1 (mCons (mV 2) mNil)) (gN 11) mYes (mBin ixD (mBin ixD (mV 0) (mC (.int 1))) (mBin modD (mV 11) (mCall lenD (mCons (mBin ixD (mV 0) (mC (.int 1))) mNil)))) [11]))) mSkip)
  (mSeq (mSet 4 (mRv (mBin ixD (mV 1) (mBin ixD (mV 0) (mC (.int 1))))))
  (mSeq (mIfS (mTest (mBin eqD (mV 3) (mC (.str "not")))) (mRet (mKeep (mLc (mItems (mV 4)) (gN 7) mYes (mBin subD (mC (.int 1)) (mV 7)) [7]))) mSkip)
  (mSeq (mIfS (mTest (mBin eqD (mV 3) (mC (.str "twice")))) (mRet (mSl (mBin addD (mKeep (mLst (mCons (mC (.int 0)) mNil))) (mV 4)) mNoP (mPart (mV 2)))) mSkip)
  (mSeq (mIfS (mTest (mBin eqD (mV 3) (mC (.str "minus")))) (mRet (mCallP [true, true, true] f__law_sum (mCons (mKeep (mLc (mItems (mV 4)) (gN 7) mYes (mBin subD (mC (.int 1)) (mV 7)) [7])) (mCons (mBin mulD (mKeep (mLst (mCons (mC (.int 0)) mNil))) (mV 2)) (mCons (mC (.int 1)) mNil))))) mSkip)
  (mSeq (mIfS (mTest (mBin eqD (mV 3) (mC (.str "prefix")))) (mSeq (mPar 6 7 (mConsV (mNew (mLst mNil)) (mConsV (mRv (mC (.int 0))) mNilV)))
  (mSeq (mFor (mItems (mV 4)) (gN 8) (mSeq (mSet 7 (mRv (mCall intD (mCons (mBin neD (mV 7) (mV 8)) mNil))))
  (mApp 6 (mV 7))))
  (mRet (mV 6)))) mSkip)
  (mSeq (mSet 5 (mRv (mBin ixD (mV 1) (mBin ixD (mV 0) (mC (.int 2))))))
  (mSeq (mIfS (mTest (mBin eqD (mV 3) (mC (.str "plus")))) (mRet (mCallP [true, true, true] f__law_sum (mCons (mV 4) (mCons (mV 5) (mCons (mC (.int 0)) mNil))))) mSkip)
  (mSeq (mIfS (mTest (mBin eqD (mV 3) (mC (.str "less")))) (mRet (mCallP [true, true, true] f__law_sum (mCons (mV 4) (mCons (mKeep (mLc (mItems (mV 5)) (gN 7) mYes (mBin subD (mC (.int 1)) (mV 7)) [7])) (mCons (mC (.int 1)) mNil))))) mSkip)
  (mSeq (mIfS (mTest (mBin eqD (mV 3) (mC (.str "and")))) (mRet (mKeep (mLc (mZip (mV 4) (mV 5)) (gT (gs1 (gN 9) (gs1 (gN 10) gs0)) 2) mYes (mBin mulD (mV 9) (mV 10)) [9, 10]))) mSkip)
  (mRet (mKeep (mLc (mZip (mV 4) (mV 5)) (gT (gs1 (gN 9) (gs1 (gN 10) gs0)) 2) mYes (mIf (mTest (mBin eqD (mV 3) (mC (.str "or")))) (mCall maxD (mCons (mV 9) (mCons (mV 10) mNil))) (mCall intD (mCons (mBin neD (mV 9) (mV 10)) mNil))) [9, 10])))))))))))))))
def f__law_value : List PyData → Option PyData := mFun 12 [true, true, true] m__law_value

def m__law_values : MS Unit :=
  (mSeq (mSet 3 (mNew (mLc (mItems (mV 2)) (gN 5) mYes (mCallP [true, true] f__law_bits (mCons (mV 5) (mCons (mV 1) mNil))) [5])))
  (mSeq (mFor (mItems (mBin ixD (mV 0) (mC (.int 1)))) (gN 4) (mApp 3 (mCallP [true, true, true] f__law_value (mCons (mV 4) (mCons (mV 3) (mCons (mV 1) mNil))))))
  (mRet (mCall tupleD (mCons (mKeep (mLc (mItems (mSl (mV 3) (mPart (mCall lenD (mCons (mV 2) mNil))) mNoP)) (gN 6) mYes (mCallP [true] f__law_word (mCons (mV 6) mNil)) [6])) mNil)))))
def f__law_values : List PyData → Option PyData := mFun 7 [true, true, true] m__law_values

def m__law_program : MS Tr :=
  (mSeq (mSet 4 (mNew (mLst mNil)))
  (mSeq (mFor (mRange1 (mCons (mV 2) mNil)) (gN 5) (mSeq (mSet 6 (mRv (mCallT [true] f__law_pick (mCons (mV 0) (mCons (mV 3) mNil)))))
  (mSeq (mIfS (mAnd (mTest (mBin eqD (mBin addD (mV 1) (mV 5)) (mC (.int 0)))) (mTest (mBin notInD (mV 6) (mTup (mCons (mC (.str "zero")) (mCons (mC (.str "ones")) (mCons (mC (.str "mask")) mNil))))))) (mSet 6 (mRv (mCallT [true] f__law_pick (mCons (mV 0) (mCons (mKeep (mLst (mCons (mC (.str "zero")) (mCons (mC (.str "ones")) mNil)))) mNil))))) mSkip)
  (mApp 4 (mCallT [true, true] f__law_row (mCons (mV 0) (mCons (mV 6) (mCons (mBin addD (mV 1) (mV 5)) mNil))))))))
  (mRet (mTup (mCons (mV 1) (mCons (mCall tupleD (mCons (mV 4) mNil)) mNil))))))
def f__law_program : Tr → List PyData → Option (PyData × Tr) := mFunT 7 [true, true, true] m__law_program

def m__law_any_words : MS Tr :=
  (mRet (mIf (mTest (mBin eqD (mCallT [true] f__law_draw (mCons (mV 0) (mCons (mC (.int 2)) mNil))) (mC (.int 0)))) (mCallP [true] f__law_book (mCons (mCallT [true] f__law_draw (mCons (mV 0) (mCons (mC (.int 7)) mNil))) mNil)) (mBin addD (mCallP [true] f__law_book (mCons (mC (.int 5)) mNil)) (mKeep (mLst (mCons (mC (.str "prefix")) (mCons (mC (.str "prefix")) mNil)))))))
def f__law_any_words : Tr → List PyData → Option (PyData × Tr) := mFunT 1 [] m__law_any_words

end Mi.BA
/-! Words as bits, as the second family of laws has them. -/
namespace Mi
open PySem L2
theorem foldl_take {α β : Type} {f : β → α → β} {s : β} {xs : List α} {j : Nat} {x : α} (h : xs[j]? = some x) : (xs.take (j + 1)).foldl f s = f ((xs.take j).foldl f s) x := by
  rw [take_at h, List.foldl_append]
  rfl
theorem natsD_rev (xs : List Nat) : (natsD xs).reverse = natsD xs.reverse := by
  unfold natsD
  rw [List.map_reverse]
theorem natsD_app (xs ys : List Nat) : natsD xs ++ natsD ys = natsD (xs ++ ys) := by
  unfold natsD
  rw [List.map_append]
theorem natsD_inj {d : PyData} {xs : List Nat} (h : d ∈ natsD xs) : ∃ n, n ∈ xs ∧ d = .int (n : Int) := by
  obtain ⟨n, hn, rfl⟩ := List.mem_map.mp h
  exact ⟨n, hn, rfl⟩
namespace RS
/-- the parity of the first i bits -/
def par (x : Nat) : Nat → Bool
  | 0 => false
  | i + 1 => par x i ^^ x.testBit i
theorem pre_par (x : Nat) : ∀ (r i : Nat), r ≤ i + 1 → (pre x i r ^^ par x (i + 1 - r)) = par x (i + 1)
  | 0, i, _ => by simp [pre]
  | r + 1, i, h => by
    have ih := pre_par x r i (by omega)
    rw [← ih]
    have e : i + 1 - r = (i + 1 - (r + 1)) + 1 := by omega
    rw [e]
    show ((pre x i r ^^ (decide (r ≤ i) && x.testBit (i - r))) ^^ _) = (pre x i r ^^ (par x (i + 1 - (r + 1)) ^^ x.testBit (i + 1 - (r + 1))))
    rw [decide_eq_true (by omega : r ≤ i), show i + 1 - (r + 1) = i - r from by omega]
    cases pre x i r <;> cases x.testBit (i - r) <;> cases par x (i - r) <;> rfl
theorem pre_full (x i : Nat) : pre x i (i + 1) = par x (i + 1) := by
  have := pre_par x (i + 1) i (Nat.le_refl _)
  rw [Nat.sub_self] at this
  simpa [par] using this
theorem bit_div (x i : Nat) : x / 2 ^ i % 2 = (x.testBit i).toNat := by
  rw [Nat.testBit_eq_decide_div_mod_eq]
  have := Nat.mod_lt (x / 2 ^ i) (by decide : 0 < 2)
  rcases (by omega : x / 2 ^ i % 2 = 0 ∨ x / 2 ^ i % 2 = 1) with e | e <;> rw [e] <;> rfl
theorem fdiv_pow (x i : Nat) (hi : i ≤ 1000) : fdivD (.int (x : Int)) (.int ((2 ^ i : Nat) : Int)) = some (.int ((x / 2 ^ i : Nat) : Int)) := by
  have hp : 0 < 2 ^ i := Nat.two_pow_pos i
  have hl : Nat.log2 (2 ^ i) < 9000 := by
    rw [Nat.log2_two_pow]
    omega
  rw [o_fdiv (by omega) (by rw [Int.natAbs_natCast]; exact hl)]
  push_cast
  rfl
theorem mod_two (x : Nat) : modD (.int (x : Int)) (.int 2) = some (.int ((x % 2 : Nat) : Int)) := mod_nat (a := x) (b := 2) (by decide)
theorem div_two (x : Nat) : fdivD (.int (x : Int)) (.int 2) = some (.int ((x / 2 : Nat) : Int)) := by
  rw [o_fdiv (by decide) (by decide)]
  push_cast
  rfl
def bN (x i : Nat) : Nat := (x.testBit i).toNat
theorem bN_lt (x i : Nat) : bN x i < 2 := by unfold bN; cases x.testBit i <;> decide
def bitsL (w x : Nat) : List Nat := (List.range w).map (bN x)
theorem bitsL_len (w x : Nat) : (bitsL w x).length = w := by unfold bitsL; rw [List.length_map, List.length_range]
theorem bitsL_succ (w x : Nat) : bitsL (w + 1) x = bitsL w x ++ [bN x w] := by
  unfold bitsL
  rw [List.range_succ, List.map_append]
  rfl
theorem bitsL_at {w x i b : Nat} (h : (bitsL w x)[i]? = some b) : b = bN x i ∧ i < w := by
  unfold bitsL at h
  rw [List.getElem?_map] at h
  obtain ⟨k, hk, rfl⟩ := Option.map_eq_some_iff.mp h
  obtain ⟨rfl, hl⟩ := range_at hk
  exact ⟨rfl, hl⟩
theorem bitsL_get {w x i : Nat} (h : i < w) : (bitsL w x)[i]? = some (bN x i) := by
  unfold bitsL
  rw [List.getElem?_map, List.getElem?_range h]
  rfl
theorem bitsL_congr {w x y : Nat} (h : ∀ i, i < w → x.testBit i = y.testBit i) : bitsL w x = bitsL w y := by
  unfold bitsL
  refine List.map_congr_left fun i hi => ?_
  unfold bN
  rw [h i (List.mem_range.mp hi)]
theorem bitsL_mod (w x : Nat) : bitsL w (x % 2 ^ w) = bitsL w x := bitsL_congr fun i hi => by
  rw [Nat.testBit_mod_two_pow, decide_eq_true hi]
  rfl
/-- the number of such bits -/
def ofL : List Nat → Nat
  | [] => 0
  | b :: r => b + 2 * ofL r
theorem ofL_rev (xs : List Nat) : xs.reverse.foldl (fun f b => 2 * f + b) 0 = ofL xs := by
  rw [List.foldl_reverse]
  induction xs with
  | nil => rfl
  | cons b r ih =>
    rw [List.foldr_cons, ih]
    show _ = b + 2 * ofL r
    omega
theorem ofL_app : ∀ (xs ys : List Nat), ofL (xs ++ ys) = ofL xs + 2 ^ xs.length * ofL ys
  | [], ys => by simp [ofL]
  | b :: r, ys => by
    rw [List.cons_append]
    show b + 2 * ofL (r ++ ys) = b + 2 * ofL r + 2 ^ (b :: r).length * ofL ys
    rw [ofL_app r ys, List.length_cons, Nat.pow_succ, Nat.mul_add]
    have : 2 * (2 ^ r.length * ofL ys) = 2 ^ r.length * 2 * ofL ys := by rw [← Nat.mul_assoc, Nat.mul_comm 2]
    omega
theorem ofL_bits (x : Nat) : ∀ w : Nat, ofL (bitsL w x) = x % 2 ^ w
  | 0 => by simp [bitsL, ofL, Nat.mod_one]
  | w + 1 => by
    rw [bitsL_succ, ofL_app, ofL_bits x w, bitsL_len, Nat.mod_pow_succ]
    show _ + 2 ^ w * (bN x w + 2 * 0) = _
    unfold bN
    rw [← bit_div]
    rfl
theorem foldl_lt : ∀ (xs : List Nat) (f k : Nat), f < 2 ^ k → (∀ b ∈ xs, b < 2) → xs.foldl (fun f b => 2 * f + b) f < 2 ^ (k + xs.length)
  | [], f, k, h, _ => h
  | b :: r, f, k, h, hb => by
    rw [List.foldl_cons, List.length_cons]
    have := foldl_lt r (2 * f + b) (k + 1) (by
      have := hb b (List.mem_cons_self ..)
      rw [Nat.pow_succ]
      omega) fun c m => hb c (List.mem_cons_of_mem _ m)
    rw [show k + (r.length + 1) = k + 1 + r.length from by omega]
    exact this
theorem bN_not {w x i : Nat} (hx : x < 2 ^ w) (hi : i < w) : bN (2 ^ w - 1 - x) i = 1 - bN x i := by
  unfold bN
  rw [show 2 ^ w - 1 - x = 2 ^ w - (x + 1) from by omega, Nat.testBit_two_pow_sub_succ hx, decide_eq_true hi]
  cases x.testBit i <;> rfl
theorem bitsL_not {w x : Nat} (hx : x < 2 ^ w) : (bitsL w x).map (1 - ·) = bitsL w (2 ^ w - 1 - x) := by
  unfold bitsL
  rw [List.map_map]
  exact List.map_congr_left fun i hi => (bN_not hx (List.mem_range.mp hi)).symm
theorem bitsL_zero (w : Nat) : bitsL w 0 = List.replicate w 0 := by
  induction w with
  | zero => rfl
  | succ w ih =>
    rw [bitsL_succ, ih, List.replicate_succ']
    congr 1
    unfold bN
    rw [Nat.zero_testBit]
    rfl
theorem bitsL_ones (w : Nat) : bitsL w (2 ^ w - 1) = List.replicate w 1 := by
  have h := bitsL_not (w := w) (x := 0) (Nat.two_pow_pos w)
  rw [Nat.sub_zero] at h
  rw [← h, bitsL_zero, List.map_replicate]
theorem bitsL_twice (w x : Nat) : (0 :: bitsL w x).take w = bitsL w (2 * x) := by
  refine List.ext_getElem? fun i => ?_
  rw [List.getElem?_take]
  by_cases hi : i < w
  · rw [if_pos hi, bitsL_get hi]
    cases i with
    | zero =>
      rw [List.getElem?_cons_zero]
      unfold bN
      rw [Nat.testBit_zero, decide_eq_false (by omega)]
      rfl
    | succ i =>
      rw [List.getElem?_cons_succ, bitsL_get (by omega)]
      unfold bN
      rw [Nat.testBit_succ (2 * x), Nat.mul_div_cancel_left _ (by decide : 0 < 2)]
  · rw [if_neg hi, List.getElem?_eq_none (by rw [bitsL_len]; omega)]
/-- a sum, bit by bit -/
theorem carry_step (x y c j : Nat) (hc : c < 2) :
    (bN x j + bN y j + (x % 2 ^ j + y % 2 ^ j + c) / 2 ^ j) % 2 = bN (x + y + c) j ∧
    (bN x j + bN y j + (x % 2 ^ j + y % 2 ^ j + c) / 2 ^ j) / 2 = (x % 2 ^ (j + 1) + y % 2 ^ (j + 1) + c) / 2 ^ (j + 1) := by
  have hp : 0 < 2 ^ j := Nat.two_pow_pos j
  have ex := @Nat.mod_pow_succ x 2 j
  have ey := @Nat.mod_pow_succ y 2 j
  rw [bit_div] at ex ey
  have hx : x % 2 ^ (j + 1) = x % 2 ^ j + 2 ^ j * bN x j := ex
  have hy : y % 2 ^ (j + 1) = y % 2 ^ j + 2 ^ j * bN y j := ey
  have e1 : x % 2 ^ (j + 1) + y % 2 ^ (j + 1) + c = (x % 2 ^ j + y % 2 ^ j + c) + (bN x j + bN y j) * 2 ^ j := by
    rw [hx, hy, Nat.add_mul, Nat.mul_comm (bN x j), Nat.mul_comm (bN y j)]
    omega
  have e2 : (x % 2 ^ (j + 1) + y % 2 ^ (j + 1) + c) / 2 ^ j = (x % 2 ^ j + y % 2 ^ j + c) / 2 ^ j + (bN x j + bN y j) := by
    rw [e1, Nat.add_mul_div_right _ _ hp]
  have e3 : bN x j + bN y j + (x % 2 ^ j + y % 2 ^ j + c) / 2 ^ j = (x % 2 ^ (j + 1) + y % 2 ^ (j + 1) + c) / 2 ^ j := by
    rw [e2]; omega
  rw [e3]
  refine ⟨?_, by rw [Nat.div_div_eq_div_mul, ← Nat.pow_succ]⟩
  rw [bit_div]
  unfold bN
  have hm : (x % 2 ^ (j + 1) + y % 2 ^ (j + 1) + c) % 2 ^ (j + 1) = (x + y + c) % 2 ^ (j + 1) := by
    rw [Nat.add_mod (x % 2 ^ (j + 1) + y % 2 ^ (j + 1)), ← Nat.add_mod x y, ← Nat.add_mod (x + y) c]
  have : ∀ z : Nat, z.testBit j = (z % 2 ^ (j + 1)).testBit j := fun z => by
    rw [Nat.testBit_mod_two_pow, decide_eq_true (Nat.lt_succ_self j)]
    rfl
  rw [this, hm, ← this]
theorem zip_ints {xs ys : List Nat} {i : Nat} {d : PyData} (h : (zipL (natsD xs) (natsD ys))[i]? = some d) : ∃ a b, xs[i]? = some a ∧ ys[i]? = some b ∧ d = .tuple [.int (a : Int), .int (b : Int)] := by
  obtain ⟨x, y, hx, hy, rfl⟩ := zipL_at h
  obtain ⟨a, ha, rfl⟩ := natsD_at hx
  obtain ⟨b, hb, rfl⟩ := natsD_at hy
  exact ⟨a, b, ha, hb, rfl⟩
end RS
namespace BA
open RS
local macro_rules | `(tactic| walk_at "op") => `(tactic| with_reducible first
  | exact o_add | exact o_addI | exact o_sub | exact o_lt | exact o_le | exact o_gt | exact o_ge | exact o_eqI | exact o_neI | exact o_eqS | exact o_neS | exact o_neg | exact o_inv | exact o_and | exact o_or | exact o_xor
  | exact o_int | exact o_intB | exact o_abs | exact o_tupL | exact o_tupT | exact o_lenL | exact o_lenT | exact o_isN | exact o_isNotN)
local macro_rules | `(tactic| walk_at "ix") => `(tactic| ((with_reducible apply o_ixA); (first | apply o_ixL | apply o_ixT | apply o_dixS); focus rfl))
local macro_rules | `(tactic| walk_at "op2") => `(tactic| first
  | ((with_reducible apply o_inA); focus rfl)
  | ((with_reducible apply o_notInA); focus rfl)
  | (with_reducible (first | refine o_addL ?_ | refine o_addT ?_); simp only [List.length_cons, List.length_nil]; decide)
  | ((with_reducible apply o_modA); focus (exact mod_ok (by decide)))
  | ((with_reducible apply o_fdivA); focus (exact o_fdiv (by decide) (by decide))))
local macro_rules | `(tactic| walk_at "call") => `(tactic| fail)
local macro_rules | `(tactic| walk_at "s") => `(tactic| first
  | ((with_reducible apply s_set_env); focus (dsimp only [List.set] <;> rfl))
  | ((with_reducible apply f_callPK); (focus rfl); (focus rfl))
  | with_reducible first
    | refine s_seq ?_ | refine d_f (f_bin ?_) | refine d_f (f_c ?_) | refine s_set ?_ | refine v_rv ?_ | refine s_if ?_ | refine b_test ?_ | refine f_bin ?_ | refine f_c ?_ | refine s_ret ?_ | refine s_skip ?_
    | refine r_cons ?_ | refine r_nil ?_ | refine a_consT ?_ | refine a_nil ?_ | refine k_cons ?_ | refine k_nil ?_ | refine a_consF ?_
    | refine f_call ?_ | refine f_callP ?_ | refine f_keep ?_ | refine f_tup ?_ | refine f_if ?_ | refine f_andV ?_ | refine f_orV ?_ | refine f_notV ?_ | refine f_isi ?_ | refine f_sl ?_ | refine f_un ?_ | refine f_chain ?_
    | refine b_and ?_ | refine b_or ?_ | refine b_not ?_ | refine b_yes ?_
    | refine s_asg ?_ | refine s_app ?_ | refine s_par ?_ | refine s_pars ?_ | refine s_drop ?_ | refine s_retN ?_ | refine s_break ?_ | refine s_cont ?_ | refine s_end ?_ | refine s_setP ?_ | refine s_dropP ?_ | refine s_appP ?_ | refine p_at ?_ | refine p_end ?_ | refine s_par3 ?_ | refine ex_three ?_ | refine i_zip ?_ | refine zz_L ?_ | refine zz_T ?_ | refine l_revL ?_ | refine ex_lst ?_
    | refine l_lst ?_ | refine l_dict ?_ | refine l_listL ?_ | refine o_no ?_ | refine o_part ?_ | refine i_enum ?_ | refine i_range1 ?_ | refine v_new ?_ | refine vs_nil ?_ | refine vs_cons ?_
  | ((with_reducible apply d_v); focus rfl)
  | ((with_reducible apply f_v); focus rfl)
  | ((with_reducible apply s_aug); focus rfl)
  | ((with_reducible apply f_callT); focus rfl)
  | ((with_reducible apply w_b); (focus rfl))
  | ((with_reducible apply i_itemsB); (focus rfl); (focus rfl))
  | with_reducible first | refine d_f ?_ | refine w_f ?_ | refine i_items ?_
  | ((with_reducible refine if_yes ?_ ?_); focus rfl)
  | ((with_reducible refine if_no ?_ ?_); focus rfl)
  | ((with_reducible apply op_ok); focus (first | walk_at "op" | walk_at "ix" | walk_at "op2"))
  | ((with_reducible refine len_ok ?_ ?_); focus (simp only [List.length_cons, List.length_nil]; decide))
  | ((with_reducible refine pk_ok ?_ ?_); focus rfl)
  | ((with_reducible refine lt_ok ?_ ?_); focus (simp only [List.length_append, List.length_cons, List.length_nil]; decide))
  | ((with_reducible refine dict_ok ?_ ?_); focus (exact ⟨rfl, by decide, by decide⟩))
  | ((with_reducible refine par_ok ?_ ?_); focus (refine ⟨?_, rfl⟩; simp only [List.length_cons, List.length_nil]; decide))
  | walk_at "call"
  | with_reducible first | refine ex_bool ?_ | refine ex_int ?_ | refine ex_itL ?_ | refine ex_itT ?_ | refine ex_rng ?_ | refine ex_two ?_ | refine ex_lstL ?_ | refine ex_lstT ?_
  | ((with_reducible apply ex_env); focus rfl)
  | ((with_reducible apply ex_own); focus rfl))
theorem law_bits {w x : Nat} (hw : w ≤ 1000) : f__law_bits [.int x, .int w] = some (.list (natsD (bitsL w x))) := by
  refine fun_ok ?_
  refine s_env (ρ' := [some (.bor (.int x)), some (.bor (.int w)), none, none]) rfl ?_
  unfold m__law_bits
  repeat (first | walk_at "s")
  refine s_for (fun j ρ _ => ∃ v x3, ρ = [some v, some (.bor (.int w)), some (.own (.list (natsD (bitsL j x)))), x3] ∧ (v = .bor (.int (x / 2 ^ j : Nat)) ∨ v = .fro (.int (x / 2 ^ j : Nat)))) ?_
  repeat (first | walk_at "s")
  refine ⟨by omega, ⟨_, _, rfl, .inl (by rw [Nat.pow_zero, Nat.div_one])⟩, ?_, ?_⟩
  · rintro j d ρ t hj ⟨v, x3, rfl, hv⟩
    obtain ⟨k, hk, rfl⟩ := natsD_at hj
    have hjl := range_at hk
    rw [Int.toNat_natCast] at hjl
    refine ex_env rfl ?_
    have hd : ∀ b c : Option Val, dat [some v, some (.bor (.int w)), b, c] 0 = some (.int (x / 2 ^ j : Nat)) := fun b c => by rcases hv with rfl | rfl <;> rfl
    refine s_set_env (ρ' := [some v, some (.bor (.int w)), some (.own (.list (natsD (bitsL j x)))), some (.fro (.int k))]) rfl ?_
    refine s_seq (s_app (f_bin (d_v (hd _ _) (d_f (f_c (op_ok (mod_two _) ⟨_, rfl, ?_, ?_⟩))))))
    · rw [natsD_len, bitsL_len]; exact fits' (by omega)
    refine s_set_env (ρ' := [some v, some (.bor (.int w)), some (.own (.list (natsD (bitsL j x) ++ [.int (x / 2 ^ j % 2 : Nat)]))), some (.fro (.int k))]) rfl ?_
    refine s_set (v_rv (f_bin (d_v (hd _ _) (d_f (f_c (op_ok (div_two _) ?_))))))
    rw [natsD_snoc, bit_div]
    have es : bitsL j x ++ [(x.testBit j).toNat] = bitsL (j + 1) x := (bitsL_succ j x).symm
    rw [es]
    refine ⟨_, some (.fro (.int k)), rfl, .inr ?_⟩
    rw [Nat.div_div_eq_div_mul, Nat.pow_succ]
  · rintro ρ t ⟨v, x3, rfl, hv⟩
    rw [natsD_len, List.length_range, Int.toNat_natCast]
    exact s_retO rfl rfl
theorem law_word {bs : List Nat} (hb : ∀ b ∈ bs, b < 2) (hl : bs.length ≤ 1000) : f__law_word [.list (natsD bs)] = some (.int (ofL bs : Nat)) := by
  refine fun_ok ?_
  refine s_env (ρ' := [some (.bor (.list (natsD bs))), none, none]) rfl ?_
  unfold m__law_word
  repeat (first | walk_at "s")
  refine s_for (fun j ρ _ => ∃ x, ρ = [some (.bor (.list (natsD bs))), some (.fro (.int ((bs.reverse.take j).foldl (fun f b => 2 * f + b) 0 : Nat))), x]) ?_
  repeat (first | walk_at "s")
  rw [natsD_rev]
  refine ⟨⟨_, rfl⟩, ?_, ?_⟩
  · rintro j d ρ t hj ⟨x, rfl⟩
    obtain ⟨b, hbj, rfl⟩ := natsD_at hj
    have hjl := lt_at hbj
    rw [List.length_reverse] at hjl
    refine ex_env rfl ?_
    rw [foldl_take hbj]
    have hlt := foldl_lt (bs.reverse.take j) 0 0 (by decide) fun c m => hb c (List.mem_reverse.mp (List.mem_of_mem_take m))
    rw [take_len' hbj, Nat.zero_add] at hlt
    generalize (bs.reverse.take j).foldl (fun f b => 2 * f + b) 0 = f at hlt ⊢
    have em := mul_nat (a := 2) (b := f) (ka := 2) (kb := j) (by decide) hlt (by omega)
    repeat (first | with_reducible (first | refine op_ok em ?_) | walk_at "s")
    refine ⟨some (.fro (.int b)), ?_⟩
    rw [Int.natCast_add]
    rfl
  · rintro ρ t ⟨x, rfl⟩
    rw [natsD_len, List.take_length, ofL_rev]
    repeat (first | walk_at "s")
    rfl
theorem law_sum {w x y c : Nat} (hc : c < 2) (hw : w ≤ 1000) : f__law_sum [.list (natsD (bitsL w x)), .list (natsD (bitsL w y)), .int (c : Nat)] = some (.list (natsD (bitsL w (x + y + c)))) := by
  refine fun_ok ?_
  refine s_env (ρ' := [some (.bor (.list (natsD (bitsL w x)))), some (.bor (.list (natsD (bitsL w y)))), some (.bor (.int c)), none, none, none]) rfl ?_
  unfold m__law_sum
  repeat (first | walk_at "s")
  refine s_for (fun j ρ _ => ∃ v x4 x5, ρ = [some (.bor (.list (natsD (bitsL w x)))), some (.bor (.list (natsD (bitsL w y)))), some v, some (.own (.list (natsD (bitsL j (x + y + c))))), x4, x5] ∧ (v = .bor (.int ((x % 2 ^ j + y % 2 ^ j + c) / 2 ^ j : Nat)) ∨ v = .fro (.int ((x % 2 ^ j + y % 2 ^ j + c) / 2 ^ j : Nat)))) ?_
  repeat (first | walk_at "s")
  refine ⟨⟨_, _, _, rfl, .inl ?_⟩, ?_, ?_⟩
  · rw [Nat.pow_zero, Nat.mod_one, Nat.mod_one, Nat.div_one, Nat.zero_add]
  · rintro j d ρ t hj ⟨v, x4, x5, rfl, hv⟩
    obtain ⟨a, b, ha, hb, rfl⟩ := zip_ints hj
    obtain ⟨rfl, hjl⟩ := bitsL_at ha
    obtain ⟨rfl, _⟩ := bitsL_at hb
    refine ex_env rfl ?_
    obtain ⟨e1, e2⟩ := carry_step x y c j hc
    have hd : ∀ l p q : Option Val, dat [some (.bor (.list (natsD (bitsL w x)))), some (.bor (.list (natsD (bitsL w y)))), some v, l, p, q] 2 = some (.int ((x % 2 ^ j + y % 2 ^ j + c) / 2 ^ j : Nat)) := fun l p q => by rcases hv with rfl | rfl <;> rfl
    generalize (x % 2 ^ j + y % 2 ^ j + c) / 2 ^ j = g at e1 e2 hd
    generalize bN x j = a at e1 e2 ⊢
    generalize bN y j = b at e1 e2 ⊢
    have em := mod_two (a + b + g)
    have ed := div_two (a + b + g)
    rw [e1] at em
    rw [e2] at ed
    have ec : ((a + b + g : Nat) : Int) = (a : Int) + (b : Int) + (g : Int) := by push_cast; rfl
    rw [ec] at em ed
    refine s_set_env (ρ' := [some (.bor (.list (natsD (bitsL w x)))), some (.bor (.list (natsD (bitsL w y)))), some v, some (.own (.list (natsD (bitsL j (x + y + c))))), some (.fro (.int a)), some (.fro (.int b))]) rfl ?_
    repeat (first | with_reducible (first | refine op_ok em ?_ | refine op_ok ed ?_ | refine d_v (hd _ _ _) ?_) | walk_at "s")
    rw [natsD_snoc]
    refine ⟨by rw [natsD_len, bitsL_len]; exact fits' (by omega), ?_⟩
    repeat (first | with_reducible (first | refine op_ok em ?_ | refine op_ok ed ?_ | refine d_v (hd _ _ _) ?_) | walk_at "s")
    rw [← bitsL_succ]
    exact ⟨_, _, _, rfl, .inr rfl⟩
  · rintro ρ t ⟨v, x4, x5, rfl, hv⟩
    rw [zipL_len, natsD_len, natsD_len, bitsL_len, bitsL_len, Nat.min_self]
    exact s_retO rfl rfl
end BA
end Mi
/-! The second family's own values of programs. -/
namespace Mi
open PySem L2
namespace BA
open RS
local macro_rules | `(tactic| walk_at "op") => `(tactic| with_reducible first
  | exact o_add | exact o_addI | exact o_sub | exact o_lt | exact o_le | exact o_gt | exact o_ge | exact o_eqI | exact o_neI | exact o_eqS | exact o_neS | exact o_neg | exact o_inv | exact o_and | exact o_or | exact o_xor
  | exact o_int | exact o_intB | exact o_abs | exact o_tupL | exact o_tupT | exact o_lenL | exact o_lenT | exact o_isN | exact o_isNotN)
local macro_rules | `(tactic| walk_at "ix") => `(tactic| ((with_reducible apply o_ixA); (first | apply o_ixL | apply o_ixT | apply o_dixS); focus rfl))
local macro_rules | `(tactic| walk_at "op2") => `(tactic| first
  | ((with_reducible apply o_inA); focus rfl)
  | ((with_reducible apply o_notInA); focus rfl)
  | (with_reducible (first | refine o_addL ?_ | refine o_addT ?_); simp only [List.length_cons, List.length_nil]; decide)
  | ((with_reducible apply o_modA); focus (exact mod_ok (by decide)))
  | ((with_reducible apply o_fdivA); focus (exact o_fdiv (by decide) (by decide))))
local macro_rules | `(tactic| walk_at "call") => `(tactic| fail)
local macro_rules | `(tactic| walk_at "s") => `(tactic| first
  | ((with_reducible apply s_set_env); focus (dsimp only [List.set] <;> rfl))
  | ((with_reducible apply f_callPK); (focus rfl); (focus rfl))
  | with_reducible first
    | refine s_seq ?_ | refine d_f (f_bin ?_) | refine d_f (f_c ?_) | refine s_set ?_ | refine v_rv ?_ | refine s_if ?_ | refine b_test ?_ | refine f_bin ?_ | refine f_c ?_ | refine s_ret ?_ | refine s_skip ?_
    | refine r_cons ?_ | refine r_nil ?_ | refine a_consT ?_ | refine a_nil ?_ | refine k_cons ?_ | refine k_nil ?_ | refine a_consF ?_
    | refine f_call ?_ | refine f_callP ?_ | refine f_keep ?_ | refine f_tup ?_ | refine f_if ?_ | refine f_andV ?_ | refine f_orV ?_ | refine f_notV ?_ | refine f_isi ?_ | refine f_sl ?_ | refine f_un ?_ | refine f_chain ?_
    | refine b_and ?_ | refine b_or ?_ | refine b_not ?_ | refine b_yes ?_
    | refine s_asg ?_ | refine s_app ?_ | refine s_par ?_ | refine s_pars ?_ | refine s_drop ?_ | refine s_retN ?_ | refine s_break ?_ | refine s_cont ?_ | refine s_end ?_ | refine s_setP ?_ | refine s_dropP ?_ | refine s_appP ?_ | refine p_at ?_ | refine p_end ?_ | refine s_par3 ?_ | refine ex_three ?_ | refine i_zip ?_ | refine zz_L ?_ | refine zz_T ?_ | refine l_revL ?_ | refine ex_lst ?_
    | refine l_lst ?_ | refine l_dict ?_ | refine l_listL ?_ | refine o_no ?_ | refine o_part ?_ | refine i_enum ?_ | refine i_range1 ?_ | refine v_new ?_ | refine vs_nil ?_ | refine vs_cons ?_
  | ((with_reducible apply d_v); focus rfl)
  | ((with_reducible apply f_v); focus rfl)
  | ((with_reducible apply s_aug); focus rfl)
  | ((with_reducible apply f_callT); focus rfl)
  | ((with_reducible apply w_b); (focus rfl))
  | ((with_reducible apply i_itemsB); (focus rfl); (focus rfl))
  | with_reducible first | refine d_f ?_ | refine w_f ?_ | refine i_items ?_
  | ((with_reducible refine if_yes ?_ ?_); focus rfl)
  | ((with_reducible refine if_no ?_ ?_); focus rfl)
  | ((with_reducible apply op_ok); focus (first | walk_at "op" | walk_at "ix" | walk_at "op2"))
  | ((with_reducible refine len_ok ?_ ?_); focus (simp only [List.length_cons, List.length_nil]; decide))
  | ((with_reducible refine pk_ok ?_ ?_); focus rfl)
  | ((with_reducible refine lt_ok ?_ ?_); focus (simp only [List.length_append, List.length_cons, List.length_nil]; decide))
  | ((with_reducible refine dict_ok ?_ ?_); focus (exact ⟨rfl, by decide, by decide⟩))
  | ((with_reducible refine par_ok ?_ ?_); focus (refine ⟨?_, rfl⟩; simp only [List.length_cons, List.length_nil]; decide))
  | walk_at "call"
  | with_reducible first | refine ex_bool ?_ | refine ex_int ?_ | refine ex_itL ?_ | refine ex_itT ?_ | refine ex_rng ?_ | refine ex_two ?_ | refine ex_lstL ?_ | refine ex_lstT ?_
  | ((with_reducible apply ex_env); focus rfl)
  | ((with_reducible apply ex_own); focus rfl))
def notF : PyData → PyData
  | .int b => .int (1 - b)
  | d => d
theorem not_map {bs : List Nat} (hb : ∀ b ∈ bs, b < 2) : (natsD bs).map notF = natsD (bs.map (1 - ·)) := by
  unfold natsD
  rw [List.map_map, List.map_map]
  refine List.map_congr_left fun b m => ?_
  have := hb b m
  show PyData.int (1 - (b : Int)) = PyData.int ((1 - b : Nat) : Int)
  exact congrArg PyData.int (by omega)
theorem bitsL_mem {w x b : Nat} (h : b ∈ bitsL w x) : b < 2 := by
  unfold bitsL at h
  obtain ⟨i, _, rfl⟩ := List.mem_map.mp h
  exact bN_lt x i
/-- a word's bits as data -/
abbrev bD (w x : Nat) : PyData := .list (natsD (bitsL w x))
theorem bD_mod (w x : Nat) : bD w (x % 2 ^ w) = bD w x := congrArg (fun l => PyData.list (natsD l)) (bitsL_mod w x)
def andF : PyData → PyData
  | .tuple [.int a, .int b] => .int (a * b)
  | d => d
def orF : PyData → PyData
  | .tuple [.int a, .int b] => .int (if b > a then b else a)
  | d => d
def xorF : PyData → PyData
  | .tuple [.int a, .int b] => .int (if !(a == b) then 1 else 0)
  | d => d
theorem zip_map {w x y z : Nat} {f : PyData → PyData} {g : Nat → Nat → Nat} (hf : ∀ a b : Nat, a < 2 → b < 2 → f (.tuple [.int (a : Int), .int (b : Int)]) = .int (g a b : Nat)) (hz : ∀ i, i < w → bN z i = g (bN x i) (bN y i)) :
    (zipL (natsD (bitsL w x)) (natsD (bitsL w y))).map f = natsD (bitsL w z) := by
  refine List.ext_getElem? fun i => ?_
  rw [List.getElem?_map]
  by_cases hi : i < w
  · have e1 := natsD_get (bitsL_get (x := x) hi)
    have e2 := natsD_get (bitsL_get (x := y) hi)
    have e3 := natsD_get (bitsL_get (x := z) hi)
    unfold zipL
    rw [List.getElem?_zipWith, e1, e2, e3, hz i hi]
    show some (f _) = _
    rw [hf _ _ (bN_lt x i) (bN_lt y i)]
  · rw [List.getElem?_eq_none (by rw [zipL_len, natsD_len, natsD_len, bitsL_len, bitsL_len]; omega), List.getElem?_eq_none (by rw [natsD_len, bitsL_len]; omega)]
    rfl
theorem zip_ints' {w x y : Nat} {d : PyData} (h : d ∈ zipL (natsD (bitsL w x)) (natsD (bitsL w y))) : ∃ a b : Nat, d = .tuple [.int (a : Int), .int (b : Int)] ∧ a < 2 ∧ b < 2 := by
  obtain ⟨i, hi⟩ := List.getElem?_of_mem h
  obtain ⟨a, b, ha, hb, rfl⟩ := zip_ints hi
  exact ⟨a, b, rfl, bitsL_mem (List.mem_of_getElem? ha), bitsL_mem (List.mem_of_getElem? hb)⟩
abbrev eV (row ks : PyData) (w : Nat) (x3 x4 x5 x6 x7 x8 x9 x10 x11 : Option Val) : Env := [some (.bor row), some (.bor ks), some (.bor (.int w)), x3, x4, x5, x6, x7, x8, x9, x10, x11]
theorem lc_not {row ks : PyData} {w x : Nat} {x3 x4 x5 x6 x7 x8 x9 x10 x11 : Option Val} {i : Nat} (hi : i = 4 ∧ x4 = some (.fro (bD w x)) ∨ i = 5 ∧ x5 = some (.fro (bD w x))) (hx : x < 2 ^ w) (hw : w ≤ 1000) {Q : PyData → Unit → Prop}
    (q : Q (bD w (2 ^ w - 1 - x)) ()) : Eg (mLc (mItems (mV i)) (gN 7) mYes (mBin subD (mC (.int 1)) (mV 7)) [7]) (eV row ks w x3 x4 x5 x6 x7 x8 x9 x10 x11) () Q := by
  refine l_lc_map notF ?_
  have hit : ∀ {P : List PyData → Unit → Prop}, P (natsD (bitsL w x)) () → Eg (mItems (mV i)) (eV row ks w x3 x4 x5 x6 x7 x8 x9 x10 x11) () P := fun {P} p => by
    rcases hi with ⟨rfl, rfl⟩ | ⟨rfl, rfl⟩
    · exact i_items (f_v rfl ⟨_, rfl, p⟩)
    · exact i_items (f_v rfl ⟨_, rfl, p⟩)
  refine hit ⟨by rw [natsD_len, bitsL_len]; exact fits (by omega), ?_, ?_⟩
  · intro d hd
    obtain ⟨b, hb, rfl⟩ := natsD_inj hd
    refine ⟨eV row ks w x3 x4 x5 x6 (some (.fro (.int b))) x8 x9 x10 x11, rfl, ?_⟩
    repeat (first | walk_at "s")
    exact ⟨rfl, rfl⟩
  · rw [not_map fun b m => bitsL_mem m, bitsL_not hx]
    exact q
theorem rep_flat (n : Nat) : ∀ w : Nat, (List.replicate w [PyData.int (n : Int)]).flatten = natsD (List.replicate w n)
  | 0 => rfl
  | w + 1 => by
    rw [List.replicate_succ, List.replicate_succ, List.flatten_cons, rep_flat n w]
    rfl
theorem rep_list (w : Nat) (n : Nat) (hw : w ≤ 1000) : mulD (.list [.int (n : Int)]) (.int (w : Int)) = some (.list (natsD (List.replicate w n))) := by
  have hz : ([PyData.int (n : Int)]).length * (w : Int).toNat ≤ sizeLine := by
    rw [Int.toNat_natCast]
    exact fits (by simp only [List.length_cons, List.length_nil]; omega)
  have e : mulD (.list [.int (n : Int)]) (.int (w : Int)) = some (.list (List.replicate (w : Int).toNat [PyData.int (n : Int)]).flatten) := by
    unfold mulD
    exact if_pos ⟨by omega, by omega, hz⟩
  rw [e, Int.toNat_natCast, rep_flat]
theorem masks_map {w : Nat} {bits : List Nat} (h0 : bits ≠ []) (hb : ∀ b ∈ bits, b ≤ 1) : (List.range w).map (fun i => bits.getD (i % bits.length) 0) = bitsL w (maskW w bits) := by
  unfold bitsL
  refine List.map_congr_left fun i hi => ?_
  unfold bN maskW
  rw [ofBits_bit, decide_eq_true (List.mem_range.mp hi)]
  have : bits.getD (i % bits.length) 0 ≤ 1 := by
    rw [List.getD_eq_getElem?_getD]
    cases h : bits[i % bits.length]? with
    | none => exact Nat.zero_le _
    | some x => exact hb x (List.mem_of_getElem? h)
  generalize bits.getD (i % bits.length) 0 = y at this
  rcases (by omega : y = 0 ∨ y = 1) with rfl | rfl <;> rfl
def maskF (bits : List Nat) : PyData → PyData
  | .int i => .int (bits.getD (i.toNat % bits.length) 0 : Nat)
  | d => d
theorem par_bits {w x : Nat} : ∀ j, j ≤ w → (List.range j).map (fun i => (par x (i + 1)).toNat) = bitsL j (preW w x) := fun j hj => by
  unfold bitsL
  refine List.map_congr_left fun i hi => ?_
  have := List.mem_range.mp hi
  unfold bN preW
  rw [ofBits_bit, decide_eq_true (by omega : i < w), pre_full]
  rfl
theorem atI_bs {w a : Nat} {ks : List Nat} (h : a < ks.length) : atI (ks.map (bD w)) (a : Int) = some (bD w (ks.getD a 0)) := by
  refine atI_nat ?_
  rw [List.getElem?_map, at_known h]
  rfl
theorem one_bits {w x : Nat} (hw : w ≤ 1000) (hx : x < 2 ^ w) (o : U1) (a : Nat) (ks : List Nat) (row : PyData) (hrow : row = .tuple [.str o.s, .int (a : Int)]) (el : atI (ks.map (bD w)) (a : Int) = some (bD w x)) :
    f__law_value [row, .list (ks.map (bD w)), .int w] = some (bD w (val w [x] (.un o 0))) := by
  subst hrow
  have hp : 0 < 2 ^ w := Nat.two_pow_pos w
  refine fun_ok ?_
  unfold m__law_value
  refine s_env (ρ' := eV (.tuple [.str o.s, .int (a : Int)]) (.list (ks.map (bD w))) w none none none none none none none none none) rfl ?_
  have ei := o_ixL el
  generalize PyData.list (ks.map (bD w)) = kd at ei ⊢
  cases o
  · repeat (first | with_reducible (first | refine op_ok ei ?_) | walk_at "s")
    refine lc_not (.inl ⟨rfl, rfl⟩) hx hw ?_
    simp only [val, List.getD_cons_zero]
  · have ea := o_addL (xs := [PyData.int 0]) (ys := natsD (bitsL w x)) (by rw [natsD_len, bitsL_len]; exact fits (by simp only [List.length_cons, List.length_nil]; omega))
    have es := take_nats (0 :: bitsL w x) w
    rw [bitsL_twice] at es
    repeat (first | with_reducible (first | refine op_ok ei ?_ | refine op_ok ea ?_) | walk_at "s")
    refine op_ok es ?_
    simp only [val, List.getD_cons_zero]
    rw [bD_mod]
  · have er := rep_list w 0 hw
    rw [← bitsL_zero] at er
    have er : mulD (.list [.int 0]) (.int w) = _ := er
    repeat (first | with_reducible (first | refine op_ok ei ?_) | walk_at "s")
    refine lc_not (.inl ⟨rfl, rfl⟩) hx hw ?_
    repeat (first | with_reducible (first | refine op_ok ei ?_ | refine op_ok er ?_) | walk_at "s")
    have e := law_sum (w := w) (x := 2 ^ w - 1 - x) (y := 0) (c := 1) (by decide) hw
    refine op_ok e ?_
    simp only [val, List.getD_cons_zero]
    rw [bD_mod, show 2 ^ w - 1 - x + 0 + 1 = 2 ^ w - x from by omega]
  · repeat (first | with_reducible (first | refine op_ok ei ?_) | walk_at "s")
    refine s_for (fun j ρ _ => ∃ x8, ρ = eV (.tuple [.str "prefix", .int (a : Int)]) kd w (some (.fro (.str "prefix"))) (some (.fro (bD w x))) none (some (.own (.list (natsD ((List.range j).map fun i => (par x (i + 1)).toNat))))) (some (.fro (.int ((par x j).toNat : Nat)))) x8 none none none) ?_
    repeat (first | walk_at "s")
    refine ⟨⟨_, rfl⟩, ?_, ?_⟩
    · rintro j d ρ t hj ⟨x8, rfl⟩
      obtain ⟨b, hbj, rfl⟩ := natsD_at hj
      obtain ⟨rfl, hjl⟩ := bitsL_at hbj
      refine ex_env rfl ?_
      have eb : (if (!(((par x j).toNat : Nat) : Int) == ((bN x j : Nat) : Int)) = true then (1 : Int) else 0) = ((par x (j + 1)).toNat : Nat) := by
        have hpar : par x (j + 1) = (par x j ^^ x.testBit j) := rfl
        rw [hpar]
        unfold bN
        cases par x j <;> cases x.testBit j <;> rfl
      repeat (first | walk_at "s")
      rw [eb, natsD_snoc]
      refine ⟨by rw [natsD_len, List.length_map, List.length_range]; exact fits' (by omega), some (.fro (.int (bN x j : Nat))), ?_⟩
      rw [List.range_succ, List.map_append]
      rfl
    · rintro ρ t ⟨x8, rfl⟩
      rw [natsD_len, bitsL_len, par_bits w (Nat.le_refl w)]
      exact s_retO rfl rfl
theorem two_bits {w x y : Nat} (hw : w ≤ 1000) (hx : x < 2 ^ w) (hy : y < 2 ^ w) (o : U2) (a b : Nat) (ks : List Nat) (row : PyData) (hrow : row = .tuple [.str o.s, .int (a : Int), .int (b : Int)]) (el : atI (ks.map (bD w)) (a : Int) = some (bD w x)) (em : atI (ks.map (bD w)) (b : Int) = some (bD w y)) :
    f__law_value [row, .list (ks.map (bD w)), .int w] = some (bD w (val w [x, y] (.bin o 0 1))) := by
  subst hrow
  have hp : 0 < 2 ^ w := Nat.two_pow_pos w
  refine fun_ok ?_
  unfold m__law_value
  refine s_env (ρ' := eV (.tuple [.str o.s, .int (a : Int), .int (b : Int)]) (.list (ks.map (bD w))) w none none none none none none none none none) rfl ?_
  have ei := o_ixL el
  have ej := o_ixL em
  generalize PyData.list (ks.map (bD w)) = kd at ei ej ⊢
  have hzl : (zipL (natsD (bitsL w x)) (natsD (bitsL w y))).length ≤ sizeLine := by
    rw [zipL_len, natsD_len, natsD_len, bitsL_len, bitsL_len]
    exact fits (by omega)
  cases o
  · repeat (first | with_reducible (first | refine op_ok ei ?_ | refine op_ok ej ?_) | walk_at "s")
    refine l_lc_map andF ?_
    repeat (first | walk_at "s")
    refine ⟨hzl, ?_, ?_⟩
    · intro d hd
      obtain ⟨p, q, rfl, hp2, hq2⟩ := zip_ints' hd
      refine ex_env rfl ?_
      have e : mulD (.int (p : Int)) (.int (q : Int)) = some (.int ((p : Int) * q)) := mulI_ok (a := 2) (b := 2) (by rw [Int.natAbs_natCast]; omega) (by rw [Int.natAbs_natCast]; omega) (by decide)
      repeat (first | with_reducible (first | refine op_ok e ?_) | walk_at "s")
      exact ⟨rfl, rfl⟩
    · rw [zip_map (z := x &&& y) (g := fun a b => a * b) (fun a b _ _ => by show PyData.int _ = PyData.int _; push_cast; rfl) fun i _ => by
        unfold bN
        rw [Nat.testBit_and]
        cases x.testBit i <;> cases y.testBit i <;> rfl]
      rfl
  · repeat (first | with_reducible (first | refine op_ok ei ?_ | refine op_ok ej ?_) | walk_at "s")
    refine l_lc_map orF ?_
    repeat (first | walk_at "s")
    refine ⟨hzl, ?_, ?_⟩
    · intro d hd
      obtain ⟨p, q, rfl, hp2, hq2⟩ := zip_ints' hd
      refine ex_env rfl ?_
      repeat (first | walk_at "s")
      refine op_ok (z := .int (if (q : Int) > p then (q : Int) else p)) rfl ⟨rfl, rfl⟩
    · rw [zip_map (z := x ||| y) (g := fun a b => if b > a then b else a) (fun a b _ _ => by
        show PyData.int (if (b : Int) > (a : Int) then (b : Int) else (a : Int)) = PyData.int _
        congr 1
        split <;> split <;> omega) fun i _ => by
        unfold bN
        rw [Nat.testBit_or]
        cases x.testBit i <;> cases y.testBit i <;> rfl]
      rfl
  · repeat (first | with_reducible (first | refine op_ok ei ?_ | refine op_ok ej ?_) | walk_at "s")
    refine l_lc_map xorF ?_
    repeat (first | walk_at "s")
    refine ⟨hzl, ?_, ?_⟩
    · intro d hd
      obtain ⟨p, q, rfl, hp2, hq2⟩ := zip_ints' hd
      refine ex_env rfl ?_
      repeat (first | walk_at "s")
      exact ⟨rfl, rfl⟩
    · rw [zip_map (z := x ^^^ y) (g := fun a b => if a = b then 0 else 1) (fun a b _ _ => by
        show PyData.int (if (!((a : Int) == (b : Int))) = true then 1 else 0) = PyData.int _
        by_cases h : a = b
        · subst h; simp
        · have : ((a : Int) == (b : Int)) = false := beq_eq_false_iff_ne.mpr (by omega)
          rw [this, if_neg h]
          rfl) fun i _ => by
        unfold bN
        rw [Nat.testBit_xor]
        cases x.testBit i <;> cases y.testBit i <;> rfl]
      rfl
  · have e := law_sum (w := w) (x := x) (y := y) (c := 0) (by decide) hw
    repeat (first | with_reducible (first | refine op_ok ei ?_ | refine op_ok ej ?_) | walk_at "s")
    refine op_ok e ?_
    simp only [val, List.getD_cons_zero, List.getD_cons_succ]
    rw [bD_mod, Nat.add_zero]
  · have e := law_sum (w := w) (x := x) (y := 2 ^ w - 1 - y) (c := 1) (by decide) hw
    repeat (first | with_reducible (first | refine op_ok ei ?_ | refine op_ok ej ?_) | walk_at "s")
    refine lc_not (.inr ⟨rfl, rfl⟩) hy hw ?_
    repeat (first | walk_at "s")
    refine op_ok e ?_
    simp only [val, List.getD_cons_zero, List.getD_cons_succ]
    rw [bD_mod, show x + (2 ^ w - 1 - y) + 1 = 2 ^ w + x - y from by omega]
theorem law_value {w : Nat} {ks : List Nat} {I : Ins} (hI : I.ok ks.length) (hk : OkW w ks) (hw : w ≤ 1000) : f__law_value [insD I, .list (ks.map (bD w)), .int w] = some (bD w (val w ks I)) := by
  have hp : 0 < 2 ^ w := Nat.two_pow_pos w
  cases I with
  | un o a =>
    have hv : val w ks (.un o a) = val w [ks.getD a 0] (.un o 0) := by cases o <;> rfl
    rw [hv]
    exact one_bits hw (hk.at a) o a ks _ rfl (atI_bs hI)
  | bin o a b =>
    have hv : val w ks (.bin o a b) = val w [ks.getD a 0, ks.getD b 0] (.bin o 0 1) := by cases o <;> rfl
    rw [hv]
    exact two_bits hw (hk.at a) (hk.at b) o a b ks _ rfl (atI_bs hI.1) (atI_bs hI.2)
  | zero =>
    refine fun_ok ?_
    unfold m__law_value
    refine s_env (ρ' := eV (.tuple [.str "zero"]) (.list (ks.map (bD w))) w none none none none none none none none none) rfl ?_
    have er := rep_list w 0 hw
    rw [← bitsL_zero] at er
    have er : mulD (.list [.int 0]) (.int w) = _ := er
    repeat (first | with_reducible (first | refine op_ok er ?_) | walk_at "s")
    exact op_ok er rfl
  | ones =>
    refine fun_ok ?_
    unfold m__law_value
    refine s_env (ρ' := eV (.tuple [.str "ones"]) (.list (ks.map (bD w))) w none none none none none none none none none) rfl ?_
    have er := rep_list w 1 hw
    rw [← bitsL_ones] at er
    have er : mulD (.list [.int 1]) (.int w) = _ := er
    repeat (first | with_reducible (first | refine op_ok er ?_) | walk_at "s")
    exact op_ok er rfl
  | mask bits =>
    obtain ⟨h0, h1, h2⟩ := hI
    have hb : 0 < bits.length := List.length_pos_iff.mpr h0
    refine fun_ok ?_
    unfold m__law_value
    refine s_env (ρ' := eV (.tuple [.str "mask", .tuple (natsD bits)]) (.list (ks.map (bD w))) w none none none none none none none none none) rfl ?_
    repeat (first | walk_at "s")
    refine l_lc_map (maskF bits) ?_
    repeat (first | walk_at "s")
    refine ⟨by omega, ?_⟩
    rw [Int.toNat_natCast]
    refine ⟨by rw [natsD_len, List.length_range]; exact fits (by omega), ?_, ?_⟩
    · intro d hd
      obtain ⟨k, hk', rfl⟩ := natsD_inj hd
      refine ex_env rfl ?_
      have e2 := mod_nat (a := k) hb
      have e3 := atI_nats (at_known (Nat.mod_lt k hb))
      repeat (first | walk_at "s")
      rw [natsD_len]
      repeat (first | with_reducible (first | refine op_ok e2 ?_ | refine op_ok (o_ixT e3) ?_) | walk_at "s")
      exact ⟨rfl, rfl⟩
    · have e : (natsD (List.range w)).map (maskF bits) = natsD (bitsL w (maskW w bits)) := by
        rw [← masks_map h0 h2]
        unfold natsD
        rw [List.map_map, List.map_map]
        rfl
      rw [e]
      rfl
def wordF : PyData → PyData
  | .list ds => .int ((ofL (ds.map fun d => match d with | .int i => i.toNat | _ => 0) : Nat) : Int)
  | d => d
theorem wordF_bits {w x : Nat} (hx : x < 2 ^ w) : wordF (bD w x) = .int (x : Nat) := by
  show PyData.int ((ofL ((natsD (bitsL w x)).map _) : Nat) : Int) = _
  have e : (natsD (bitsL w x)).map (fun d => match d with | .int i => i.toNat | _ => 0) = bitsL w x := by
    unfold natsD
    rw [List.map_map]
    exact (List.map_congr_left fun b _ => Int.toNat_natCast b).trans (List.map_id _)
  rw [e, ofL_bits, Nat.mod_eq_of_lt hx]
def bitsF (w : Nat) : PyData → PyData
  | .int x => bD w x.toNat
  | d => d
theorem law_values {w many : Nat} {rows : List Ins} {ws : List Nat} (ok : OkP many rows) (hl : ws.length = many) (hk : OkW w ws) (hw : w ≤ 1000) (hm : many ≤ 1000) : f__law_values [progD many rows, .int w, .tuple (natsD ws)] = some (.tuple (natsD ((runAll w ws rows).drop many))) := by
  refine fun_ok ?_
  refine s_env (ρ' := [some (.bor (.tuple [.int many, .tuple (rows.map insD)])), some (.bor (.int w)), some (.bor (.tuple (natsD ws))), none, none, none, none]) rfl ?_
  unfold m__law_values
  repeat (first | walk_at "s")
  refine l_lc_map (bitsF w) ?_
  repeat (first | walk_at "s")
  refine ⟨by rw [natsD_len]; exact fits (by omega), ?_, ?_⟩
  · intro d hd
    obtain ⟨x, hx, rfl⟩ := natsD_inj hd
    refine ex_env rfl ?_
    repeat (first | walk_at "s")
    refine op_ok (law_bits hw) ⟨rfl, rfl⟩
  have eb : (natsD ws).map (bitsF w) = ws.map (bD w) := by
    unfold natsD
    rw [List.map_map]
    rfl
  rw [eb]
  repeat (first | walk_at "s")
  refine s_for (fun j ρ _ => ∃ x, ρ = [some (.bor (.tuple [.int many, .tuple (rows.map insD)])), some (.bor (.int w)), some (.bor (.tuple (natsD ws))), some (.own (.list ((runAll w ws (rows.take j)).map (bD w)))), x, none, none]) ?_
  repeat (first | walk_at "s")
  have few := ok.few
  refine ⟨⟨_, rfl⟩, ?_, ?_⟩
  · rintro j d ρ t hj ⟨x, rfl⟩
    rw [List.getElem?_map] at hj
    obtain ⟨I, hI, rfl⟩ := Option.map_eq_some_iff.mp hj
    have hjl := lt_at hI
    refine ex_env rfl ?_
    have e1 := runAll_take (w := w) (ks := ws) hI
    have e2 := runAll_len w (rows.take j) ws
    have e3 := runAll_ok (rows.take j) hk
    rw [take_len' hI] at e2
    rw [e1]
    generalize runAll w ws (rows.take j) = ks at e1 e2 e3
    have oki : I.ok ks.length := by rw [e2, hl]; exact ok.ok j I hI
    have ev := law_value oki e3 hw
    repeat (first | with_reducible (first | refine op_ok ev ?_) | walk_at "s")
    refine ⟨by rw [List.length_map]; exact fits' (by omega), some (.fro (insD I)), ?_⟩
    rw [List.map_append]
    rfl
  · rintro ρ t ⟨x, rfl⟩
    rw [List.length_map, List.take_length]
    have e2 := runAll_len w rows ws
    have e3 := runAll_ok rows hk
    have es : sliceD (.list ((runAll w ws rows).map (bD w))) (some ((natsD ws).length : Nat)) none = some (.list (((runAll w ws rows).drop many).map (bD w))) := by
      show some (PyData.list (cutL _ (some (((natsD ws).length : Nat) : Int)) none)) = _
      rw [cutL_drop, natsD_len, hl, List.map_drop]
    repeat (first | with_reducible (first | refine op_ok es ?_) | walk_at "s")
    refine l_lc_map wordF ?_
    repeat (first | with_reducible (first | refine op_ok es ?_) | walk_at "s")
    have hlen : ((runAll w ws rows).drop many).length ≤ 1000000 := by rw [List.length_drop]; omega
    have hd3 : OkW w ((runAll w ws rows).drop many) := fun k m => e3 k (List.mem_of_mem_drop m)
    generalize (runAll w ws rows).drop many = l at hlen hd3 es
    refine ⟨by rw [List.length_map]; exact fits (by omega), ?_, ?_⟩
    · intro d hd
      obtain ⟨v, hv, rfl⟩ := List.mem_map.mp hd
      refine ex_env rfl ?_
      have ew := law_word (bs := bitsL w v) (fun b m => bitsL_mem m) (by rw [bitsL_len]; omega)
      rw [ofL_bits, Nat.mod_eq_of_lt (hd3 v hv)] at ew
      repeat (first | walk_at "s")
      exact op_ok ew ⟨(wordF_bits (hd3 v hv)).symm, rfl⟩
    · have e : (l.map (bD w)).map wordF = natsD l := by
        rw [List.map_map]
        unfold natsD
        exact List.map_congr_left fun v m => wordF_bits (hd3 v m)
      rw [e]
      repeat (first | walk_at "s")
      rfl
end BA
end Mi
/-! The second family's drawn programs. -/
namespace Mi
open PySem L2
namespace BA
open RS
local macro_rules | `(tactic| walk_at "op") => `(tactic| with_reducible first
  | exact o_add | exact o_addI | exact o_sub | exact o_lt | exact o_le | exact o_gt | exact o_ge | exact o_eqI | exact o_neI | exact o_eqS | exact o_neS | exact o_neg | exact o_inv | exact o_and | exact o_or | exact o_xor
  | exact o_int | exact o_intB | exact o_abs | exact o_tupL | exact o_tupT | exact o_lenL | exact o_lenT | exact o_isN | exact o_isNotN)
local macro_rules | `(tactic| walk_at "ix") => `(tactic| ((with_reducible apply o_ixA); (first | apply o_ixL | apply o_ixT | apply o_dixS); focus rfl))
local macro_rules | `(tactic| walk_at "op2") => `(tactic| first
  | ((with_reducible apply o_inA); focus rfl)
  | ((with_reducible apply o_notInA); focus rfl)
  | (with_reducible (first | refine o_addL ?_ | refine o_addT ?_); simp only [List.length_cons, List.length_nil]; decide)
  | ((with_reducible apply o_modA); focus (exact mod_ok (by decide)))
  | ((with_reducible apply o_fdivA); focus (exact o_fdiv (by decide) (by decide))))
local macro_rules | `(tactic| walk_at "call") => `(tactic| fail)
local macro_rules | `(tactic| walk_at "s") => `(tactic| first
  | ((with_reducible apply s_set_env); focus (dsimp only [List.set] <;> rfl))
  | ((with_reducible apply f_callPK); (focus rfl); (focus rfl))
  | with_reducible first
    | refine s_seq ?_ | refine d_f (f_bin ?_) | refine d_f (f_c ?_) | refine s_set ?_ | refine v_rv ?_ | refine s_if ?_ | refine b_test ?_ | refine f_bin ?_ | refine f_c ?_ | refine s_ret ?_ | refine s_skip ?_
    | refine r_cons ?_ | refine r_nil ?_ | refine a_consT ?_ | refine a_nil ?_ | refine k_cons ?_ | refine k_nil ?_ | refine a_consF ?_
    | refine f_call ?_ | refine f_callP ?_ | refine f_keep ?_ | refine f_tup ?_ | refine f_if ?_ | refine f_andV ?_ | refine f_orV ?_ | refine f_notV ?_ | refine f_isi ?_ | refine f_sl ?_ | refine f_un ?_ | refine f_chain ?_
    | refine b_and ?_ | refine b_or ?_ | refine b_not ?_ | refine b_yes ?_
    | refine s_asg ?_ | refine s_app ?_ | refine s_par ?_ | refine s_pars ?_ | refine s_drop ?_ | refine s_retN ?_ | refine s_break ?_ | refine s_cont ?_ | refine s_end ?_ | refine s_setP ?_ | refine s_dropP ?_ | refine s_appP ?_ | refine p_at ?_ | refine p_end ?_ | refine s_par3 ?_ | refine ex_three ?_ | refine i_zip ?_ | refine zz_L ?_ | refine zz_T ?_ | refine l_revL ?_ | refine ex_lst ?_
    | refine l_lst ?_ | refine l_dict ?_ | refine l_listL ?_ | refine o_no ?_ | refine o_part ?_ | refine i_enum ?_ | refine i_range1 ?_ | refine v_new ?_ | refine vs_nil ?_ | refine vs_cons ?_
  | ((with_reducible apply d_v); focus rfl)
  | ((with_reducible apply f_v); focus rfl)
  | ((with_reducible apply s_aug); focus rfl)
  | ((with_reducible apply f_callT); focus rfl)
  | ((with_reducible apply w_b); (focus rfl))
  | ((with_reducible apply i_itemsB); (focus rfl); (focus rfl))
  | with_reducible first | refine d_f ?_ | refine w_f ?_ | refine i_items ?_
  | ((with_reducible refine if_yes ?_ ?_); focus rfl)
  | ((with_reducible refine if_no ?_ ?_); focus rfl)
  | ((with_reducible apply op_ok); focus (first | walk_at "op" | walk_at "ix" | walk_at "op2"))
  | ((with_reducible refine len_ok ?_ ?_); focus (simp only [List.length_cons, List.length_nil]; decide))
  | ((with_reducible refine pk_ok ?_ ?_); focus rfl)
  | ((with_reducible refine lt_ok ?_ ?_); focus (simp only [List.length_append, List.length_cons, List.length_nil]; decide))
  | ((with_reducible refine dict_ok ?_ ?_); focus (exact ⟨rfl, by decide, by decide⟩))
  | ((with_reducible refine par_ok ?_ ?_); focus (refine ⟨?_, rfl⟩; simp only [List.length_cons, List.length_nil]; decide))
  | walk_at "call"
  | with_reducible first | refine ex_bool ?_ | refine ex_int ?_ | refine ex_itL ?_ | refine ex_itT ?_ | refine ex_rng ?_ | refine ex_two ?_ | refine ex_lstL ?_ | refine ex_lstT ?_
  | ((with_reducible apply ex_env); focus rfl)
  | ((with_reducible apply ex_own); focus rfl))
/-- a list of words of instructions -/
def WordsL (d : PyData) : Prop := ∃ xs : List PyData, d = .list xs ∧ xs ≠ [] ∧ xs.length ≤ 40 ∧ ∀ x ∈ xs, ∃ wd : Wd, x = .str wd.s
theorem wds : ∀ x ∈ ([.str "zero", .str "ones", .str "not", .str "and", .str "or", .str "xor", .str "twice", .str "minus", .str "plus", .str "less", .str "mask", .str "prefix"] : List PyData), ∃ wd : Wd, x = .str wd.s := by
  intro x h
  simp only [List.mem_cons, List.not_mem_nil, or_false] at h
  rcases h with rfl | rfl | rfl | rfl | rfl | rfl | rfl | rfl | rfl | rfl | rfl | rfl
  · exact ⟨.zero, rfl⟩
  · exact ⟨.ones, rfl⟩
  · exact ⟨.un .not, rfl⟩
  · exact ⟨.bin .and, rfl⟩
  · exact ⟨.bin .or, rfl⟩
  · exact ⟨.bin .xor, rfl⟩
  · exact ⟨.un .twice, rfl⟩
  · exact ⟨.un .minus, rfl⟩
  · exact ⟨.bin .plus, rfl⟩
  · exact ⟨.bin .less, rfl⟩
  · exact ⟨.mask, rfl⟩
  · exact ⟨.un .pfx, rfl⟩
theorem words_of {xs : List PyData} (h0 : xs ≠ []) (hl : xs.length ≤ 40) (h : ∀ x ∈ xs, x ∈ ([.str "zero", .str "ones", .str "not", .str "and", .str "or", .str "xor", .str "twice", .str "minus", .str "plus", .str "less", .str "mask", .str "prefix"] : List PyData)) : WordsL (.list xs) :=
  ⟨xs, rfl, h0, hl, fun x m => wds x (h x m)⟩
theorem book (spot : Nat) (h : spot < 7) : ∃ d, f__law_book [.int spot] = some d ∧ WordsL d := by
  have key : ∀ (k : Nat) (xs : List PyData), f__law_book [.int (k : Nat)] = some (.list xs) → xs ≠ [] → xs.length ≤ 40 → (∀ x ∈ xs, x ∈ ([.str "zero", .str "ones", .str "not", .str "and", .str "or", .str "xor", .str "twice", .str "minus", .str "plus", .str "less", .str "mask", .str "prefix"] : List PyData)) → ∃ d, f__law_book [.int (k : Nat)] = some d ∧ WordsL d := fun k xs e h0 hl h => ⟨_, e, words_of h0 hl h⟩
  have run : ∀ (k : Nat) (d : PyData), Es m__law_book [some (.bor (.int (k : Nat))), none, none, none] () No (fun x _ => x = d) No No → f__law_book [.int (k : Nat)] = some d := fun k d h => fun_ok (s_env rfl h)
  match spot, h with
  | 0, _ => exact key 0 [.str "zero", .str "ones", .str "not", .str "and", .str "or", .str "xor"] (run 0 _ (by unfold m__law_book; (repeat (first | walk_at "s")) <;> rfl)) (by simp) (by simp) (by simp)
  | 1, _ => exact key 1 [.str "zero", .str "ones", .str "not", .str "and", .str "or", .str "xor", .str "prefix"] (run 1 _ (by unfold m__law_book; (repeat (first | walk_at "s")) <;> rfl)) (by simp) (by simp) (by simp)
  | 2, _ => exact key 2 [.str "zero", .str "ones", .str "not", .str "and", .str "or", .str "xor", .str "twice"] (run 2 _ (by unfold m__law_book; (repeat (first | walk_at "s")) <;> rfl)) (by simp) (by simp) (by simp)
  | 3, _ => exact key 3 [.str "zero", .str "ones", .str "not", .str "and", .str "or", .str "xor", .str "minus"] (run 3 _ (by unfold m__law_book; (repeat (first | walk_at "s")) <;> rfl)) (by simp) (by simp) (by simp)
  | 4, _ => exact key 4 [.str "zero", .str "ones", .str "not", .str "and", .str "or", .str "xor", .str "twice", .str "minus", .str "plus", .str "less"] (run 4 _ (by unfold m__law_book; (repeat (first | walk_at "s")) <;> rfl)) (by simp) (by simp) (by simp)
  | 5, _ => exact key 5 [.str "zero", .str "ones", .str "not", .str "and", .str "or", .str "xor", .str "twice", .str "minus", .str "plus", .str "less", .str "mask"] (run 5 _ (by unfold m__law_book; (repeat (first | walk_at "s")) <;> rfl)) (by simp) (by simp) (by simp)
  | 6, _ => exact key 6 [.str "zero", .str "ones", .str "not", .str "and", .str "or", .str "xor", .str "twice", .str "minus", .str "plus", .str "less", .str "prefix"] (run 6 _ (by unfold m__law_book; (repeat (first | walk_at "s")) <;> rfl)) (by simp) (by simp) (by simp)
theorem book5 : f__law_book [.int 5] = some (.list [.str "zero", .str "ones", .str "not", .str "and", .str "or", .str "xor", .str "twice", .str "minus", .str "plus", .str "less", .str "mask"]) := by
  refine fun_ok ?_
  refine s_env (ρ' := [some (.bor (.int 5)), none, none, none]) rfl ?_
  unfold m__law_book
  repeat (first | walk_at "s")
  rfl
theorem any_words {n : Int} {t : Tr} {P : PyData → Tr → Prop} (h : TrOk n t) (hn : n ≤ 900000000) (q : ∀ (d : PyData) (t' : Tr), TrOk (n + 2) t' → WordsL d → P d t') : ∃ z t2, f__law_any_words t [] = some (z, t2) ∧ P z t2 := by
  refine funT_ok ?_
  refine s_env (ρ' := [some (.tray 0)]) rfl ?_
  unfold m__law_any_words
  repeat (first | walk_at "s")
  refine draw_exI 2 rfl h (by omega) (by omega) (by omega) fun r t1 h1 hr => ?_
  repeat (first | walk_at "s")
  refine if_both (fun _ => ?_) (fun _ => ?_)
  · repeat (first | walk_at "s")
    refine draw_exI 7 rfl h1 (by omega) (by omega) (by omega) fun r t2 h2 hr => ?_
    repeat (first | walk_at "s")
    obtain ⟨d, ed, hd⟩ := book r hr
    exact op_ok ed (q d t2 (h2.mono (by omega)) hd)
  · repeat (first | with_reducible (first | refine op_ok book5 ?_) | walk_at "s")
    exact q _ t1 (h1.mono (by omega)) (words_of (by simp) (by simp) (by simp))
def isFree (wd : Wd) : Bool := match wd with
  | .zero => true | .ones => true | .mask => true | _ => false
theorem notIn_free (wd : Wd) : notInD (.str wd.s) (.tuple [.str "zero", .str "ones", .str "mask"]) = some (.bool (!isFree wd)) := by
  cases wd with
  | zero => rfl
  | ones => rfl
  | mask => rfl
  | un o => cases o <;> rfl
  | bin o => cases o <;> rfl
theorem program {n : Int} {t : Tr} {many size : Nat} {wl : PyData} {P : PyData → Tr → Prop} (h : TrOk n t) (hn : n ≤ 500000000) (hm : many ≤ 10) (hs0 : 1 ≤ size) (hs : size ≤ 1000) (hw : WordsL wl)
    (q : ∀ (rows : List Ins) (t' : Tr), TrOk (n + 110 * size) t' → OkP many rows → rows.length = size → P (progD many rows) t') : ∃ z t2, f__law_program t [.int (many : Int), .int (size : Int), wl] = some (z, t2) ∧ P z t2 := by
  obtain ⟨xs, rfl, h0, hl, hx⟩ := hw
  refine funT_ok ?_
  refine s_env (ρ' := [some (.tray 0), some (.bor (.int many)), some (.bor (.int size)), some (.bor (.list xs)), none, none, none]) rfl ?_
  unfold m__law_program
  repeat (first | walk_at "s")
  refine s_for (fun j ρ t => ∃ (rows : List Ins) (x5 x6 : Option Val), ρ = [some (.tray 0), some (.bor (.int many)), some (.bor (.int size)), some (.bor (.list xs)), some (.own (.list (rows.map insD))), x5, x6] ∧ rows.length = j ∧ (∀ (i : Nat) (I : Ins), rows[i]? = some I → I.ok (many + i)) ∧ TrOk (n + 110 * j) t) ?_
  repeat (first | walk_at "s")
  refine ⟨by omega, ⟨[], none, none, rfl, rfl, fun i I e => (nomatch e), h.mono (by omega)⟩, ?_, ?_⟩
  · rintro j d ρ t hj ⟨rows, x5, x6, rfl, hlen, hok, ht⟩
    obtain ⟨k, hk, rfl⟩ := natsD_at hj
    obtain ⟨rfl, hjl⟩ := range_at hk
    rw [Int.toNat_natCast] at hjl
    refine ex_env rfl ?_
    repeat (first | walk_at "s")
    refine pick_ex ht (by omega) h0 (by omega) fun x t1 h1 hx1 => ?_
    obtain ⟨wd, rfl⟩ := hx x hx1
    -- the row, once its word is drawn
    have rowS : ∀ (wd : Wd) (t : Tr), TrOk (n + 110 * (k : Nat) + 2) t → (1 ≤ many + k ∨ isFree wd = true) → Es (mApp 4 (mCallT [true, true] f__law_row (mCons (mV 0) (mCons (mV 6) (mCons (mBin addD (mV 1) (mV 5)) mNil))))) [some (.tray 0), some (.bor (.int many)), some (.bor (.int size)), some (.bor (.list xs)), some (.own (.list (rows.map insD))), some (.fro (.int k)), some (.fro (.str wd.s))] t
        (fun ρ t => ∃ (rows : List Ins) (x5 x6 : Option Val), ρ = [some (.tray 0), some (.bor (.int many)), some (.bor (.int size)), some (.bor (.list xs)), some (.own (.list (rows.map insD))), x5, x6] ∧ rows.length = k + 1 ∧ (∀ (i : Nat) (I : Ins), rows[i]? = some I → I.ok (many + i)) ∧ TrOk (n + 110 * ((k + 1 : Nat) : Int)) t)
        P
        (fun ρ1 t1 => Es (mRet (mTup (mCons (mV 1) (mCons (mCall tupleD (mCons (mV 4) mNil)) mNil)))) ρ1 t1 No P No No)
        (fun ρ t => ∃ (rows : List Ins) (x5 x6 : Option Val), ρ = [some (.tray 0), some (.bor (.int many)), some (.bor (.int size)), some (.bor (.list xs)), some (.own (.list (rows.map insD))), x5, x6] ∧ rows.length = k + 1 ∧ (∀ (i : Nat) (I : Ins), rows[i]? = some I → I.ok (many + i)) ∧ TrOk (n + 110 * ((k + 1 : Nat) : Int)) t) := fun wd t ht hfree => by
      repeat (first | walk_at "s")
      rw [show (many : Int) + (k : Int) = ((many + k : Nat) : Int) from (Int.natCast_add many k).symm]
      refine row ht (by omega) (by
        rcases hfree with hfree | hfree
        · exact .inl hfree
        · cases wd with
          | zero => exact .inr (.inl rfl)
          | ones => exact .inr (.inr (.inl rfl))
          | mask => exact .inr (.inr (.inr rfl))
          | un o => cases hfree
          | bin o => cases hfree) (by omega) ?_
      intro I t2 h2 hI _
      repeat (first | walk_at "s")
      refine ⟨by rw [List.length_map]; exact fits' (by omega), rows ++ [I], some (.fro (.int k)), some (.fro (.str wd.s)), ?_, by rw [List.length_append, hlen]; rfl, fun i J e => ?_, h2.mono (by omega)⟩
      · rw [List.map_append]
        rfl
      · by_cases hi : i < rows.length
        · rw [List.getElem?_append_left hi] at e
          exact hok i J e
        · rw [List.getElem?_append_right (by omega)] at e
          have : i - rows.length = 0 := by
            have := lt_at e
            rw [List.length_singleton] at this
            omega
          rw [this] at e
          cases e
          rw [show i = k from by omega]
          exact hI
    have en := notIn_free wd
    by_cases hz : many + k = 0
    · have ez : ((many : Int) + (k : Int) == 0) = true := by
        have : (many : Int) + (k : Int) = 0 := by omega
        rw [this]
        rfl
      refine s_set_env (ρ' := [some (.tray 0), some (.bor (.int many)), some (.bor (.int size)), some (.bor (.list xs)), some (.own (.list (rows.map insD))), some (.fro (.int k)), some (.fro (.str wd.s))]) rfl ?_
      refine s_seq (s_if (b_and (b_test (f_bin (d_f (f_bin (d_v rfl (d_v rfl (op_ok rfl (d_f (f_c (op_ok rfl (ex_bool (if_yes ez ?_))))))))))))))
      refine b_test (f_bin (d_v rfl (d_f (f_tup (k_cons (f_c (k_cons (f_c (k_cons (f_c (k_nil (len_ok (by simp only [List.length_cons, List.length_nil]; decide) (op_ok en (ex_bool ?_)))))))))))))) 
      refine if_both (fun hb => ?_) (fun hb => ?_)
      · repeat (first | walk_at "s")
        refine pick_ex h1 (by omega) (by simp) (by simp) fun y t2 h2 hy => ?_
        simp only [List.mem_cons, List.not_mem_nil, or_false] at hy
        rcases hy with rfl | rfl
        · exact s_set_env rfl (rowS .zero t2 (h2.mono (by omega)) (.inr rfl))
        · exact s_set_env rfl (rowS .ones t2 (h2.mono (by omega)) (.inr rfl))
      · refine s_skip ?_
        exact rowS wd t1 (h1.mono (by omega)) (.inr (by simpa using hb))
    · have ez : ((many : Int) + (k : Int) == 0) = false := beq_eq_false_iff_ne.mpr (by omega)
      refine s_set_env (ρ' := [some (.tray 0), some (.bor (.int many)), some (.bor (.int size)), some (.bor (.list xs)), some (.own (.list (rows.map insD))), some (.fro (.int k)), some (.fro (.str wd.s))]) rfl ?_
      refine s_seq (s_if (b_and (b_test (f_bin (d_f (f_bin (d_v rfl (d_v rfl (op_ok rfl (d_f (f_c (op_ok rfl (ex_bool (if_no ez (if_no rfl (s_skip ?_))))))))))))))))
      exact rowS wd t1 (h1.mono (by omega)) (.inl (by omega))
  · rintro ρ t ⟨rows, x5, x6, rfl, hlen, hok, ht⟩
    rw [natsD_len, List.length_range, Int.toNat_natCast] at hlen ht
    repeat (first | walk_at "s")
    exact q rows t ht ⟨hok, by rintro rfl; rw [List.length_nil] at hlen; omega, by omega⟩ hlen
end BA
end Mi
/-! Programs cut to a lesser width. -/
namespace Mi
open PySem L2
namespace RS
theorem dvd_pow {v w : Nat} (h : v ≤ w) : 2 ^ v ∣ 2 ^ w := Nat.pow_dvd_pow 2 h
theorem bits_ext {a b v : Nat} (ha : a < 2 ^ v) (hb : b < 2 ^ v) (h : ∀ i, i < v → a.testBit i = b.testBit i) : a = b := ext_lt ha hb h
theorem pre_cut {x v i : Nat} (hi : i < v) : ∀ r, pre (x % 2 ^ v) i r = pre x i r
  | 0 => rfl
  | r + 1 => by
    show (pre (x % 2 ^ v) i r ^^ (decide (r ≤ i) && (x % 2 ^ v).testBit (i - r))) = (pre x i r ^^ (decide (r ≤ i) && x.testBit (i - r)))
    rw [pre_cut hi r, Nat.testBit_mod_two_pow, decide_eq_true (by omega : i - r < v)]
    rfl
theorem int_cut {v w : Nat} {a : Nat} {z : Int} (h : v ≤ w) (e : ((a : Nat) : Int) % ((2 ^ w : Nat) : Int) = z % ((2 ^ w : Nat) : Int)) : ((a % 2 ^ w % 2 ^ v : Nat) : Int) = z % ((2 ^ v : Nat) : Int) := by
  have hd : (((2 ^ v : Nat) : Int)) ∣ ((2 ^ w : Nat) : Int) := Int.natCast_dvd_natCast.mpr (dvd_pow h)
  rw [← nat_emod, ← nat_emod, e, Int.emod_emod_of_dvd _ hd]
theorem sub_cut (x y : Int) (m : Int) : (x % m - y % m) % m = (x - y) % m := by rw [← Int.sub_emod]
theorem val_cut {v w : Nat} {ks : List Nat} {I : Ins} (h : v ≤ w) (hk : OkW w ks) : val w ks I % 2 ^ v = val v (ks.map (· % 2 ^ v)) I := by
  have hp : 0 < 2 ^ w := Nat.two_pow_pos w
  have hq : 0 < 2 ^ v := Nat.two_pow_pos v
  have hg : ∀ a : Nat, (ks.map (· % 2 ^ v)).getD a 0 = ks.getD a 0 % 2 ^ v := fun a => by
    rw [List.getD_eq_getElem?_getD, List.getD_eq_getElem?_getD, List.getElem?_map]
    cases ks[a]? with
    | none => show 0 = 0 % 2 ^ v; rw [Nat.zero_mod]
    | some x => rfl
  cases I with
  | zero => exact Nat.zero_mod _
  | ones =>
    refine bits_ext (Nat.mod_lt _ hq) (by show 2 ^ v - 1 < _; omega) fun i hi => ?_
    show ((2 ^ w - 1) % 2 ^ v).testBit i = (2 ^ v - 1).testBit i
    rw [Nat.testBit_mod_two_pow, Nat.testBit_two_pow_sub_one, Nat.testBit_two_pow_sub_one, decide_eq_true hi, decide_eq_true (by omega : i < w)]
    rfl
  | un o a =>
    have la := hk.at a
    cases o with
    | not =>
      simp only [val, hg]
      generalize ks.getD a 0 = x at la ⊢
      have hm := Nat.mod_lt x hq
      refine bits_ext (Nat.mod_lt _ hq) (by omega) fun i hi => ?_
      rw [Nat.testBit_mod_two_pow, show 2 ^ w - 1 - x = 2 ^ w - (x + 1) from by omega, Nat.testBit_two_pow_sub_succ la, show 2 ^ v - 1 - x % 2 ^ v = 2 ^ v - (x % 2 ^ v + 1) from by omega, Nat.testBit_two_pow_sub_succ hm, Nat.testBit_mod_two_pow, decide_eq_true hi, decide_eq_true (by omega : i < w)]
      rfl
    | twice =>
      simp only [val, hg]
      rw [Nat.mod_mod_of_dvd _ (dvd_pow h), Nat.mul_mod_mod]
    | minus =>
      simp only [val, hg]
      generalize ks.getD a 0 = x at la ⊢
      have hm := Nat.mod_lt x hq
      have e1 := int_cut (a := 2 ^ w - x) (z := -(x : Int)) h (by rw [neg_emod (by omega : x ≤ 2 ^ w), nat_emod])
      have e2 := neg_emod (a := x % 2 ^ v) (m := 2 ^ v) (by omega)
      have e3 : (-((x % 2 ^ v : Nat) : Int)) % ((2 ^ v : Nat) : Int) = (-(x : Int)) % ((2 ^ v : Nat) : Int) := by
        have := sub_cut 0 (x : Int) ((2 ^ v : Nat) : Int)
        rw [Int.zero_emod, Int.zero_sub, Int.zero_sub] at this
        rw [← this, ← nat_emod]
      rw [e3, ← e1] at e2
      exact_mod_cast e2
    | pfx =>
      simp only [val, hg]
      refine bits_ext (Nat.mod_lt _ hq) (ofBits_lt _ _) fun i hi => ?_
      unfold preW
      rw [Nat.testBit_mod_two_pow, ofBits_bit, ofBits_bit, decide_eq_true hi, decide_eq_true (by omega : i < w), pre_cut hi]
      rfl
  | bin o a b =>
    have la := hk.at a
    have lb := hk.at b
    cases o with
    | and => simp only [val, hg]; exact Nat.and_mod_two_pow
    | or => simp only [val, hg]; exact Nat.or_mod_two_pow
    | xor => simp only [val, hg]; exact Nat.xor_mod_two_pow
    | plus =>
      simp only [val, hg]
      rw [Nat.mod_mod_of_dvd _ (dvd_pow h), Nat.add_mod]
    | less =>
      simp only [val, hg]
      generalize ks.getD a 0 = x at la ⊢
      generalize ks.getD b 0 = y at lb ⊢
      have hm := Nat.mod_lt y hq
      have e0 : (((2 ^ w + x - y : Nat)) : Int) % ((2 ^ w : Nat) : Int) = ((x : Int) - y) % ((2 ^ w : Nat) : Int) := by
        rw [Int.natCast_sub (by omega), Int.natCast_add, show ((2 ^ w : Nat) : Int) + (x : Int) - (y : Int) = ((x : Int) - y) + ((2 ^ w : Nat) : Int) from by omega, Int.add_emod_right]
      have e1 := int_cut (a := 2 ^ w + x - y) h e0
      have e2 : (((2 ^ v + x % 2 ^ v - y % 2 ^ v : Nat)) : Int) % ((2 ^ v : Nat) : Int) = ((x : Int) - y) % ((2 ^ v : Nat) : Int) := by
        rw [Int.natCast_sub (by omega), Int.natCast_add, show ((2 ^ v : Nat) : Int) + ((x % 2 ^ v : Nat) : Int) - ((y % 2 ^ v : Nat) : Int) = (((x % 2 ^ v : Nat) : Int) - ((y % 2 ^ v : Nat) : Int)) + ((2 ^ v : Nat) : Int) from by omega, Int.add_emod_right, ← nat_emod, ← nat_emod, sub_cut]
      rw [← e1, nat_emod] at e2
      exact_mod_cast e2.symm
  | mask bits =>
    refine bits_ext (Nat.mod_lt _ hq) (ofBits_lt _ _) fun i hi => ?_
    show (maskW w bits % 2 ^ v).testBit i = (maskW v bits).testBit i
    unfold maskW
    rw [Nat.testBit_mod_two_pow, ofBits_bit, ofBits_bit, decide_eq_true hi, decide_eq_true (by omega : i < w)]
    rfl
theorem runAll_cut {v w : Nat} (h : v ≤ w) : ∀ (rows : List Ins) (ks : List Nat), OkW w ks → (runAll w ks rows).map (· % 2 ^ v) = runAll v (ks.map (· % 2 ^ v)) rows
  | [], ks, _ => rfl
  | I :: r, ks, hk => by
    show (runAll w (ks ++ [val w ks I]) r).map (· % 2 ^ v) = runAll v (ks.map (· % 2 ^ v) ++ [val v (ks.map (· % 2 ^ v)) I]) r
    rw [runAll_cut h r _ (fun k m => by
      rcases List.mem_append.mp m with m | m
      · exact hk k m
      · cases List.mem_singleton.mp m; exact val_lt hk I), List.map_append, List.map_cons, List.map_nil, val_cut h hk]
end RS
end Mi
/-! k18: the rows that the last one uses, and a program of these alone. -/
namespace Mi.K18
open PySem L2 RS
def ops : Ins → List Nat
  | .un _ a => [a]
  | .bin _ a b => [a, b]
  | _ => []
def renum (f : Nat → Nat) : Ins → Ins
  | .un o a => .un o (f a)
  | .bin o a b => .bin o (f a) (f b)
  | I => I
theorem ops_renum (f : Nat → Nat) (I : Ins) : ops (renum f I) = (ops I).map f := by cases I <;> rfl
theorem renum_congr {f g : Nat → Nat} {I : Ins} (h : ∀ a ∈ ops I, f a = g a) : renum f I = renum g I := by
  cases I with
  | un o a => exact congrArg (Ins.un o) (h a (by simp [ops]))
  | bin o a b =>
    show Ins.bin o (f a) (f b) = Ins.bin o (g a) (g b)
    rw [h a (by simp [ops]), h b (by simp [ops])]
  | _ => rfl
theorem renum_id {f : Nat → Nat} {I : Ins} (h : ∀ a ∈ ops I, f a = a) : renum f I = I := by
  rw [renum_congr (g := fun a => a) h]
  cases I <;> rfl
theorem ops_ok {n : Nat} {I : Ins} (h : I.ok n) : ∀ a ∈ ops I, a < n := fun a m => by
  cases I with
  | un o x =>
    simp only [ops, List.mem_cons, List.not_mem_nil, or_false] at m
    subst m
    exact h
  | bin o x y =>
    simp only [ops, List.mem_cons, List.not_mem_nil, or_false] at m
    rcases m with rfl | rfl
    · exact h.1
    · exact h.2
  | _ => cases m
theorem renum_ok {f : Nat → Nat} {n m : Nat} {I : Ins} (h : I.ok n) (hf : ∀ a ∈ ops I, f a < m) : (renum f I).ok m := by
  cases I with
  | un o x => exact hf x (by simp [ops])
  | bin o x y => exact ⟨hf x (by simp [ops]), hf y (by simp [ops])⟩
  | mask bits => exact h
  | zero => exact h
  | ones => exact h
/-- which rows are known to be used when the rows behind the d last ones are still to be looked at -/
def mk (many : Nat) (rows : List Ins) : Nat → Nat → Bool
  | 0, j => j == rows.length - 1
  | d + 1, j => mk many rows d j || (mk many rows d (rows.length - 1 - d) && (ops (rows.getD (rows.length - 1 - d) .zero)).contains (many + j))
def used (many : Nat) (rows : List Ins) (j : Nat) : Bool := mk many rows rows.length j
section
variable {many : Nat} {rows : List Ins}
theorem mk_up {d e : Nat} (h : d ≤ e) {j : Nat} (hj : mk many rows d j = true) : mk many rows e j = true := by
  induction e with
  | zero =>
    have : d = 0 := by omega
    rw [this] at hj
    exact hj
  | succ e ih =>
    by_cases q : d = e + 1
    · rw [q] at hj; exact hj
    · show (mk many rows e j || _) = true
      rw [ih (by omega), Bool.true_or]
theorem row_ops (ok : OkP many rows) {k : Nat} (hk : k < rows.length) : ∀ a ∈ ops (rows.getD k .zero), a < many + k := by
  have e : rows[k]? = some rows[k] := List.getElem?_eq_getElem hk
  rw [List.getD_eq_getElem?_getD, e]
  exact ops_ok (ok.ok k _ e)
/-- rows that have been looked at stay as they were -/
theorem mk_stay (ok : OkP many rows) {d j : Nat} (hd : d < rows.length) (hj : rows.length - 1 - d ≤ j) : mk many rows (d + 1) j = mk many rows d j := by
  show (mk many rows d j || _) = _
  have : (ops (rows.getD (rows.length - 1 - d) .zero)).contains (many + j) = false := by
    rw [Bool.eq_false_iff]
    intro h
    have h1 := row_ops ok (k := rows.length - 1 - d) (by omega) _ (List.contains_iff_mem.mp h)
    omega
  rw [this, Bool.and_false, Bool.or_false]
theorem used_at (ok : OkP many rows) {j : Nat} (hj : j < rows.length) : ∀ d, rows.length - 1 - j ≤ d → d ≤ rows.length → mk many rows d j = mk many rows (rows.length - 1 - j) j := fun d h1 h2 => by
  induction d with
  | zero =>
    have : rows.length - 1 - j = 0 := by omega
    rw [this]
  | succ d ih =>
    by_cases q : rows.length - 1 - j = d + 1
    · rw [q]
    · rw [mk_stay ok (by omega) (by omega), ih (by omega) (by omega)]
theorem used_last (ok : OkP many rows) : used many rows (rows.length - 1) = true := by
  unfold used
  exact mk_up (Nat.zero_le _) (by show (_ == _) = true; exact beq_self_eq_true _)
/-- what a used row uses is used -/
theorem used_ops (ok : OkP many rows) {k j : Nat} (hk : k < rows.length) (hu : used many rows k = true) (hj : many + j ∈ ops (rows.getD k .zero)) : used many rows j = true := by
  unfold used at hu ⊢
  rw [used_at ok hk rows.length (by omega) (Nat.le_refl _)] at hu
  have : mk many rows (rows.length - 1 - k + 1) j = true := by
    show (mk many rows (rows.length - 1 - k) j || (mk many rows (rows.length - 1 - k) (rows.length - 1 - (rows.length - 1 - k)) && (ops (rows.getD (rows.length - 1 - (rows.length - 1 - k)) .zero)).contains (many + j))) = true
    rw [show rows.length - 1 - (rows.length - 1 - k) = k by omega, hu, List.contains_iff_mem.mpr hj, Bool.and_true, Bool.or_true]
  exact mk_up (by omega) this
/-- what is used is the last one, or used by a used one -/
theorem used_by (ok : OkP many rows) {j : Nat} : ∀ d, d ≤ rows.length → mk many rows d j = true → j = rows.length - 1 ∨ ∃ k, k < rows.length ∧ used many rows k = true ∧ many + j ∈ ops (rows.getD k .zero)
  | 0, _, h => .inl (by have h : (j == rows.length - 1) = true := h; exact eq_of_beq h)
  | d + 1, hd, h => by
    have h : (mk many rows d j || (mk many rows d (rows.length - 1 - d) && (ops (rows.getD (rows.length - 1 - d) .zero)).contains (many + j))) = true := h
    rcases (Bool.or_eq_true _ _).mp h with h | h
    · exact used_by ok d (by omega) h
    · obtain ⟨h1, h2⟩ := (Bool.and_eq_true _ _).mp h
      exact .inr ⟨rows.length - 1 - d, by omega, mk_up (by omega) h1, List.contains_iff_mem.mp h2⟩
end
def cnt (u : Nat → Bool) (j : Nat) : Nat := ((List.range j).filter u).length
theorem cnt_succ (u : Nat → Bool) (j : Nat) : cnt u (j + 1) = cnt u j + (if u j = true then 1 else 0) := by
  unfold cnt
  rw [List.range_succ, List.filter_append, List.length_append]
  by_cases h : u j = true
  · rw [if_pos h, List.filter_cons_of_pos h]; rfl
  · rw [if_neg h, List.filter_cons_of_neg h]; rfl
theorem cnt_mono (u : Nat → Bool) {i j : Nat} (h : i ≤ j) : cnt u i ≤ cnt u j := by
  induction j with
  | zero =>
    have : i = 0 := by omega
    rw [this]
    exact Nat.le_refl _
  | succ j ih =>
    by_cases q : i = j + 1
    · rw [q]; exact Nat.le_refl _
    · rw [cnt_succ]
      have := ih (by omega)
      omega
theorem cnt_lt {u : Nat → Bool} {i j : Nat} (h : i < j) (hu : u i = true) : cnt u i < cnt u j := by
  have h1 := cnt_mono u (show i + 1 ≤ j from h)
  rw [cnt_succ, if_pos hu] at h1
  omega
theorem filt_of (u : Nat → Bool) {k : Nat} : ∀ n, k < n → u k = true → ((List.range n).filter u)[cnt u k]? = some k
  | n + 1, h, hu => by
    rw [List.range_succ, List.filter_append]
    by_cases q : k = n
    · subst q
      rw [List.getElem?_append_right (show ((List.range k).filter u).length ≤ cnt u k from Nat.le_refl _), List.filter_cons_of_pos hu]
      show ([k] : List Nat)[cnt u k - cnt u k]? = some k
      rw [Nat.sub_self]
      rfl
    · have hlt : cnt u k < ((List.range n).filter u).length := cnt_lt (show k < n by omega) hu
      rw [List.getElem?_append_left hlt]
      exact filt_of u n (by omega) hu
theorem filt_at (u : Nat → Bool) {n i k : Nat} (h : ((List.range n).filter u)[i]? = some k) : k < n ∧ u k = true ∧ cnt u k = i := by
  have hm := List.mem_of_getElem? h
  obtain ⟨h1, h2⟩ := List.mem_filter.mp hm
  have hk := List.mem_range.mp h1
  refine ⟨hk, h2, ?_⟩
  have h3 := filt_of u n hk h2
  have hn : ((List.range n).filter u).Nodup := List.nodup_range.filter _
  have a1 := (List.getElem?_eq_some_iff.mp h)
  have a2 := (List.getElem?_eq_some_iff.mp h3)
  obtain ⟨l1, e1⟩ := a1
  obtain ⟨l2, e2⟩ := a2
  have hne := List.pairwise_iff_getElem.mp hn
  rcases Nat.lt_trichotomy (cnt u k) i with q | q | q
  · exact absurd (e2.trans e1.symm) (hne _ _ l2 l1 q)
  · exact q
  · exact absurd (e1.trans e2.symm) (hne _ _ l1 l2 q)
def kept (many : Nat) (rows : List Ins) : List Nat := (List.range rows.length).filter (used many rows)
def nu (many : Nat) (rows : List Ins) (a : Nat) : Nat := if a < many then a else many + cnt (used many rows) (a - many)
def neatR (many : Nat) (rows : List Ins) : List Ins := (kept many rows).map fun k => renum (nu many rows) (rows.getD k .zero)
theorem val_congr {w : Nat} {ks ks' : List Nat} {f : Nat → Nat} {I : Ins} (h : ∀ a ∈ ops I, ks.getD (f a) 0 = ks'.getD a 0) : val w ks (renum f I) = val w ks' I := by
  cases I with
  | un o a =>
    have h1 := h a (by simp [ops])
    cases o <;> simp only [renum, val, h1]
  | bin o a b =>
    have h1 := h a (by simp [ops])
    have h2 := h b (by simp [ops])
    cases o <;> simp only [renum, val, h1, h2]
  | _ => rfl
theorem runAll_pre (w : Nat) : ∀ (rows : List Ins) (ks : List Nat), ∃ l, runAll w ks rows = ks ++ l
  | [], ks => ⟨[], (List.append_nil ks).symm⟩
  | I :: r, ks => by
    obtain ⟨l, e⟩ := runAll_pre w r (ks ++ [val w ks I])
    refine ⟨[val w ks I] ++ l, ?_⟩
    rw [← List.append_assoc, ← e]
    rfl
section
variable {many w : Nat} {rows : List Ins} {ks : List Nat}
theorem run_get (hl : ks.length = many) {k j : Nat} (hk : k ≤ rows.length) (hj : j < many + k) : (runAll w ks (rows.take k)).getD j 0 = (runAll w ks rows).getD j 0 := by
  have e : runAll w ks rows = runAll w (runAll w ks (rows.take k)) (rows.drop k) := by rw [← runAll_app, List.take_append_drop]
  obtain ⟨l, e2⟩ := runAll_pre w (rows.drop k) (runAll w ks (rows.take k))
  rw [e, e2, List.getD_eq_getElem?_getD, List.getD_eq_getElem?_getD, List.getElem?_append_left]
  rw [runAll_len, hl, List.length_take]
  omega
theorem run_row (hl : ks.length = many) {k : Nat} (hk : k < rows.length) : (runAll w ks rows).getD (many + k) 0 = val w (runAll w ks (rows.take k)) (rows.getD k .zero) := by
  have hI : rows[k]? = some (rows.getD k .zero) := by rw [List.getD_eq_getElem?_getD, List.getElem?_eq_getElem hk]; rfl
  rw [← run_get hl (k := k + 1) (by omega) (by omega), runAll_take hI, List.getD_eq_getElem?_getD, List.getElem?_append_right (by rw [runAll_len, hl, List.length_take]; omega), runAll_len, hl, List.length_take, show many + k - (many + min k rows.length) = 0 by omega]
  rfl
/-- what the kept rows are worth -/
theorem neat_run (ok : OkP many rows) (hl : ks.length = many) : ∀ i, i ≤ (kept many rows).length → runAll w ks ((neatR many rows).take i) = ks ++ ((kept many rows).take i).map fun k => (runAll w ks rows).getD (many + k) 0
  | 0, _ => by simp [runAll]
  | i + 1, hi => by
    have ih := neat_run ok hl i (by omega)
    have hk : (kept many rows)[i]? = some ((kept many rows)[i]'(by omega)) := List.getElem?_eq_getElem (by omega)
    generalize (kept many rows)[i]'(by omega) = k at hk
    obtain ⟨k1, k2, k3⟩ := filt_at _ hk
    have hr : (neatR many rows)[i]? = some (renum (nu many rows) (rows.getD k .zero)) := by
      unfold neatR
      rw [List.getElem?_map, hk]
      rfl
    rw [runAll_take hr, ih, take_at hk, List.map_append, List.map_singleton, ← List.append_assoc]
    congr 2
    rw [run_row hl k1]
    refine val_congr fun a ha => ?_
    have hak := row_ops ok k1 a ha
    by_cases q : a < many
    · have e1 : nu many rows a = a := if_pos q
      rw [e1, run_get hl (by omega) (by omega), List.getD_eq_getElem?_getD, List.getElem?_append_left (by omega)]
      obtain ⟨l, e2⟩ := runAll_pre w rows ks
      rw [e2, List.getD_eq_getElem?_getD, List.getElem?_append_left (by omega)]
    · have e1 : nu many rows a = many + cnt (used many rows) (a - many) := if_neg q
      have hu : used many rows (a - many) = true := used_ops ok k1 k2 (by rw [show many + (a - many) = a by omega]; exact ha)
      have hc : cnt (used many rows) (a - many) < i := by
        rw [← k3]
        exact cnt_lt (by omega) hu
      have hg : (kept many rows)[cnt (used many rows) (a - many)]? = some (a - many) := filt_of _ _ (by omega) hu
      rw [e1, run_get hl (by omega) (by omega), List.getD_eq_getElem?_getD, List.getElem?_append_right (by omega), hl, Nat.add_sub_cancel_left, List.getElem?_map, List.getElem?_take_of_lt hc, hg]
      show (runAll w ks rows).getD (many + (a - many)) 0 = _
      rw [show many + (a - many) = a by omega]
theorem last_kept (ok : OkP many rows) : (kept many rows).getLast? = some (rows.length - 1) := by
  have hpos : 0 < rows.length := List.length_pos_iff.mpr ok.pos
  obtain ⟨m, hm⟩ : ∃ m, rows.length = m + 1 := ⟨rows.length - 1, by omega⟩
  have hu := used_last ok
  unfold kept
  rw [hm] at hu ⊢
  rw [List.range_succ, List.filter_append, Nat.add_sub_cancel] at *
  rw [List.filter_cons_of_pos hu]
  exact List.getLast?_concat
theorem neat_len : (neatR many rows).length = (kept many rows).length := List.length_map _
theorem kept_pos (ok : OkP many rows) : 0 < (kept many rows).length := by
  have := last_kept ok
  cases h : kept many rows with
  | nil => rw [h] at this; cases this
  | cons a l => exact Nat.succ_pos _
theorem neat_res (ok : OkP many rows) (hl : ks.length = many) : res w ks (neatR many rows) = res w ks rows := by
  have e := neat_run (w := w) ok hl (neatR many rows).length (Nat.le_of_eq neat_len)
  have hpos : 0 < rows.length := List.length_pos_iff.mpr ok.pos
  rw [List.take_length, neat_len, List.take_length] at e
  unfold res
  rw [e]
  have hk := last_kept ok
  have hlast : (ks ++ (kept many rows).map fun k => (runAll w ks rows).getD (many + k) 0).getLast? = some ((runAll w ks rows).getD (many + (rows.length - 1)) 0) := by
    rw [List.getLast?_append, List.getLast?_map, hk]
    rfl
  rw [List.getLastD_eq_getLast?, hlast]
  have hlen := runAll_len w rows ks
  rw [List.getLastD_eq_getLast?, List.getLast?_eq_getElem?, hlen, hl, List.getD_eq_getElem?_getD, show many + rows.length - 1 = many + (rows.length - 1) by omega]
  rfl
theorem nu_lt (ok : OkP many rows) {i k : Nat} (hk : (kept many rows)[i]? = some k) : ∀ a ∈ ops (rows.getD k .zero), nu many rows a < many + i := fun a ha => by
  obtain ⟨k1, k2, k3⟩ := filt_at _ hk
  have hak := row_ops ok k1 a ha
  unfold nu
  split
  · omega
  · rename_i q
    have hu : used many rows (a - many) = true := used_ops ok k1 k2 (by rw [show many + (a - many) = a by omega]; exact ha)
    have hc : cnt (used many rows) (a - many) < i := by
      rw [← k3]
      exact cnt_lt (by omega) hu
    omega
theorem neat_at {i : Nat} {k : Nat} (hk : (kept many rows)[i]? = some k) : (neatR many rows)[i]? = some (renum (nu many rows) (rows.getD k .zero)) := by
  unfold neatR
  rw [List.getElem?_map, hk]
  rfl
theorem kept_le : (kept many rows).length ≤ rows.length := by
  unfold kept
  refine Nat.le_trans (List.length_filter_le _ _) ?_
  rw [List.length_range]
  exact Nat.le_refl _
theorem neat_ok (ok : OkP many rows) : OkP many (neatR many rows) := by
  refine ⟨fun i I hI => ?_, ?_, Nat.le_trans (Nat.le_of_eq neat_len) (Nat.le_trans kept_le ok.few)⟩
  · have hi := lt_at hI
    rw [neat_len] at hi
    have hk : (kept many rows)[i]? = some ((kept many rows)[i]'hi) := List.getElem?_eq_getElem hi
    rw [neat_at hk] at hI
    cases hI
    obtain ⟨k1, _, _⟩ := filt_at _ hk
    have hr : rows[(kept many rows)[i]'hi]? = some (rows.getD ((kept many rows)[i]'hi) .zero) := by rw [List.getD_eq_getElem?_getD, List.getElem?_eq_getElem k1]; rfl
    exact renum_ok (ok.ok _ _ hr) (nu_lt ok hk)
  · intro h
    have h1 := kept_pos ok
    rw [← neat_len, h] at h1
    exact absurd h1 (by decide)
/-- all rows of a neat program are used -/
theorem neat_used (ok : OkP many rows) : ∀ d i, i + d + 1 = (kept many rows).length → used many (neatR many rows) i = true := fun d => by
  induction d using Nat.strongRecOn with
  | _ d ih =>
    intro i hi
    have hil : i < (kept many rows).length := by omega
    have hk : (kept many rows)[i]? = some ((kept many rows)[i]'hil) := List.getElem?_eq_getElem hil
    generalize (kept many rows)[i]'hil = k at hk
    obtain ⟨k1, k2, k3⟩ := filt_at _ hk
    have ok' := neat_ok ok
    rcases used_by ok rows.length (Nat.le_refl _) k2 with e | ⟨k', h1, h2, h3⟩
    · have hlast := last_kept ok
      rw [List.getLast?_eq_getElem?] at hlast
      have hc : cnt (used many rows) (rows.length - 1) = (kept many rows).length - 1 := (filt_at _ hlast).2.2
      have : i = (neatR many rows).length - 1 := by
        rw [neat_len, ← hc, ← e, k3]
      rw [this]
      exact used_last ok'
    · have hkk := row_ops ok h1 _ h3
      have hc' : (kept many rows)[cnt (used many rows) k']? = some k' := filt_of _ _ h1 h2
      have hlt := lt_at hc'
      have hgt : i < cnt (used many rows) k' := by
        rw [← k3]
        exact cnt_lt (by omega) k2
      have hu' := ih ((kept many rows).length - 1 - cnt (used many rows) k') (by omega) (cnt (used many rows) k') (by omega)
      refine used_ops ok' (k := cnt (used many rows) k') (by rw [neat_len]; exact hlt) hu' ?_
      have e1 : (neatR many rows).getD (cnt (used many rows) k') .zero = renum (nu many rows) (rows.getD k' .zero) := by
        rw [List.getD_eq_getElem?_getD, neat_at hc']
        rfl
      rw [e1, ops_renum]
      refine List.mem_map.mpr ⟨many + k, h3, ?_⟩
      unfold nu
      rw [if_neg (by omega), Nat.add_sub_cancel_left, k3]
theorem neat_all (ok : OkP many rows) {i : Nat} (hi : i < (neatR many rows).length) : used many (neatR many rows) i = true := by
  rw [neat_len] at hi
  exact neat_used ok ((kept many rows).length - 1 - i) i (by omega)
end
theorem cnt_all {u : Nat → Bool} : ∀ n, (∀ j, j < n → u j = true) → cnt u n = n
  | 0, _ => rfl
  | n + 1, h => by
    rw [cnt_succ, cnt_all n fun j hj => h j (by omega), if_pos (h n (by omega))]
/-- where all rows are used nothing changes -/
theorem neat_id {many : Nat} {rows : List Ins} (ok : OkP many rows) (h : ∀ i, i < rows.length → used many rows i = true) : neatR many rows = rows := by
  have hk : kept many rows = List.range rows.length := by
    unfold kept
    refine List.filter_eq_self.mpr fun i m => h i (List.mem_range.mp m)
  unfold neatR
  rw [hk]
  apply List.ext_getElem?
  intro i
  rw [List.getElem?_map]
  by_cases hi : i < rows.length
  · rw [List.getElem?_range hi]
    have hr : rows[i]? = some (rows.getD i .zero) := by rw [List.getD_eq_getElem?_getD, List.getElem?_eq_getElem hi]; rfl
    rw [hr]
    show some (renum (nu many rows) (rows.getD i .zero)) = _
    rw [renum_id]
    intro a ha
    have hak := row_ops ok hi a ha
    unfold nu
    split
    · rfl
    · rw [cnt_all _ fun j hj => h j (by omega)]
      omega
  · rw [List.getElem?_eq_none (by rw [List.length_range]; omega), List.getElem?_eq_none (by omega)]
    rfl
theorem neat_twice {many : Nat} {rows : List Ins} (ok : OkP many rows) : neatR many (neatR many rows) = neatR many rows := neat_id (neat_ok ok) fun i hi => neat_all ok hi
end Mi.K18
/-! Texts of any data that are not too long, dicts too. -/
namespace Mi
open PySem L2
mutual
def anyD : PyData → Bool
  | .none => true
  | .bool _ => true
  | .int i => decide (i.natAbs.log2 < 1920)
  | .str x => x.cps.all (· < 1114112)
  | .list xs => anyA xs
  | .tuple xs => anyA xs
  | .dict es => anyK es
def anyA : List PyData → Bool
  | [] => true
  | x :: r => anyD x && anyA r
def anyK : List (PyData × PyData) → Bool
  | [] => true
  | (a, b) :: r => anyD a && anyD b && anyK r
end
mutual
def wgD : PyData → Nat
  | .none => 4
  | .bool _ => 5
  | .int _ => 1925
  | .str x => 10 * x.length + 2
  | .list xs => wgA xs + 4
  | .tuple xs => wgA xs + 4
  | .dict es => wgK es + 4
def wgA : List PyData → Nat
  | [] => 0
  | x :: r => wgD x + 2 + wgA r
def wgK : List (PyData × PyData) → Nat
  | [] => 0
  | (a, b) :: r => wgD a + wgD b + 4 + wgK r
end
theorem dictText_le (ts : List Str) : (dictText ts).length ≤ piled ts + 4 := by
  unfold dictText
  rw [strLen_append, strLen_append]
  have e1 : ((("{" : String) : Str)).length = 1 := rfl
  have e3 : ((("}" : String) : Str)).length = 1 := rfl
  have e2 : (Str.join ", " ts).length ≤ piled ts := by
    by_cases h : ts = []
    · subst h; exact Nat.le_of_eq rfl
    · have := join_length_add ts h
      omega
  omega
mutual
theorem any_le : ∀ d : PyData, anyD d = true → d.shown.length ≤ wgD d
  | .none, _ => by show (("None" : String) : Str).length ≤ 4; decide
  | .bool true, _ => by show (("True" : String) : Str).length ≤ 5; decide
  | .bool false, _ => by show (("False" : String) : Str).length ≤ 5; decide
  | .int i, h => shown_le (.int i) h
  | .str x, h => shown_le (.str x) h
  | .list xs, h => by
    have := anyA_le xs h
    exact Nat.le_trans (by rw [PyData.shown]; exact listText_le _) (show piled (PyData.shownAll xs) + 4 ≤ wgA xs + 4 by omega)
  | .tuple xs, h => by
    have := anyA_le xs h
    exact Nat.le_trans (by rw [PyData.shown]; exact tupleText_le _) (show piled (PyData.shownAll xs) + 4 ≤ wgA xs + 4 by omega)
  | .dict es, h => by
    have := anyK_le es h
    exact Nat.le_trans (by rw [PyData.shown]; exact dictText_le _) (show piled (PyData.shownKv es) + 4 ≤ wgK es + 4 by omega)
theorem anyA_le : ∀ xs : List PyData, anyA xs = true → piled (PyData.shownAll xs) ≤ wgA xs
  | [], _ => by rw [PyData.shownAll]; exact Nat.le_refl 0
  | x :: r, h => by
    have h : (anyD x && anyA r) = true := h
    rw [Bool.and_eq_true] at h
    have h1 := any_le x h.1
    have h2 := anyA_le r h.2
    rw [PyData.shownAll, piled_cons]
    show _ ≤ wgD x + 2 + wgA r
    omega
theorem anyK_le : ∀ xs : List (PyData × PyData), anyK xs = true → piled (PyData.shownKv xs) ≤ wgK xs
  | [], _ => by rw [PyData.shownKv]; exact Nat.le_refl 0
  | (a, b) :: r, h => by
    have h : (anyD a && anyD b && anyK r) = true := h
    rw [Bool.and_eq_true, Bool.and_eq_true] at h
    have h1 := any_le a h.1.1
    have h3 := any_le b h.1.2
    have h2 := anyK_le r h.2
    rw [PyData.shownKv, piled_cons, strLen_append, strLen_append]
    have e1 : (((": " : String) : Str)).length = 2 := rfl
    show _ ≤ wgD a + wgD b + 4 + wgK r
    omega
end
mutual
theorem any_ok : ∀ d : PyData, anyD d = true → d.showable = true
  | .none, _ => rfl
  | .bool _, _ => rfl
  | .int i, h => h
  | .str _, _ => rfl
  | .list xs, h => by rw [PyData.showable]; exact anyA_ok xs h
  | .tuple xs, h => by rw [PyData.showable]; exact anyA_ok xs h
  | .dict es, h => by rw [PyData.showable]; exact anyK_ok es h
theorem anyA_ok : ∀ xs : List PyData, anyA xs = true → PyData.showableAll xs = true
  | [], _ => rfl
  | x :: r, h => by
    have h : (anyD x && anyA r) = true := h
    rw [Bool.and_eq_true] at h
    rw [PyData.showableAll, any_ok x h.1, anyA_ok r h.2]
    rfl
theorem anyK_ok : ∀ xs : List (PyData × PyData), anyK xs = true → PyData.showableKv xs = true
  | [], _ => rfl
  | (a, b) :: r, h => by
    have h : (anyD a && anyD b && anyK r) = true := h
    rw [Bool.and_eq_true, Bool.and_eq_true] at h
    rw [PyData.showableKv, any_ok a h.1.1, any_ok b h.1.2, anyK_ok r h.2]
    rfl
end
/-- any data, no longer than w, no deeper than k -/
def An (d : PyData) (w k : Nat) : Prop := anyD d = true ∧ wgD d ≤ w ∧ d.depth ≤ k
def AnA (ds : List PyData) (w k : Nat) : Prop := anyA ds = true ∧ wgA ds ≤ w ∧ PyData.depthAll ds ≤ k
theorem An.mono {d : PyData} {w k w' k' : Nat} (h : An d w k) (h1 : w ≤ w') (h2 : k ≤ k') : An d w' k' := ⟨h.1, Nat.le_trans h.2.1 h1, Nat.le_trans h.2.2 h2⟩
theorem AnA.mono {d : List PyData} {w k w' k' : Nat} (h : AnA d w k) (h1 : w ≤ w') (h2 : k ≤ k') : AnA d w' k' := ⟨h.1, Nat.le_trans h.2.1 h1, Nat.le_trans h.2.2 h2⟩
theorem An.repr {d : PyData} {w k : Nat} (h : An d w k) (h1 : w ≤ 16777216) (h2 : k ≤ 60) : reprE [d] = some (.str d.shown) :=
  if_pos ⟨any_ok d h.1, Nat.le_trans (any_le d h.1) (Nat.le_trans h.2.1 h1), Nat.le_trans h.2.2 h2⟩
theorem an_nil {k : Nat} : AnA [] 0 k := ⟨rfl, Nat.le_refl 0, by rw [PyData.depthAll]; exact Nat.zero_le _⟩
theorem an_cons {d : PyData} {ds : List PyData} {w w' k : Nat} (h : An d w k) (h2 : AnA ds w' k) : AnA (d :: ds) (w + 2 + w') k := by
  refine ⟨?_, ?_, ?_⟩
  · show (anyD d && anyA ds) = true
    rw [h.1, h2.1]
    rfl
  · have := h.2.1
    have := h2.2.1
    show wgD d + 2 + wgA ds ≤ _
    omega
  · rw [PyData.depthAll]
    exact Nat.max_le.mpr ⟨h.2.2, h2.2.2⟩
theorem an_tup {ds : List PyData} {w k : Nat} (h : AnA ds w k) : An (.tuple ds) (w + 4) (k + 1) := by
  refine ⟨h.1, ?_, ?_⟩
  · have := h.2.1
    show wgA ds + 4 ≤ _
    omega
  · have := h.2.2
    rw [PyData.depth]
    omega
theorem an_lst {ds : List PyData} {w k : Nat} (h : AnA ds w k) : An (.list ds) (w + 4) (k + 1) := by
  refine ⟨h.1, ?_, ?_⟩
  · have := h.2.1
    show wgA ds + 4 ≤ _
    omega
  · have := h.2.2
    rw [PyData.depth]
    omega
theorem AnA.of_mem : ∀ {ds : List PyData} {w k : Nat}, (∀ d ∈ ds, An d w k) → AnA ds (ds.length * (w + 2)) k
  | [], _, _, _ => an_nil.mono (Nat.zero_le _) (Nat.le_refl _)
  | d :: ds, w, k, h => by
    have h1 := h d (List.mem_cons_self ..)
    have h2 := AnA.of_mem (fun d m => h d (List.mem_cons_of_mem _ m))
    refine (an_cons h1 h2).mono ?_ (Nat.le_refl _)
    rw [List.length_cons, Nat.add_mul, Nat.one_mul]
    omega
theorem AnA.mem : ∀ {ds : List PyData} {w k : Nat}, AnA ds w k → ∀ d ∈ ds, An d w k
  | x :: r, w, k, h, d, m => by
    obtain ⟨h1, h2, h3⟩ := h
    have h1 : (anyD x && anyA r) = true := h1
    rw [Bool.and_eq_true] at h1
    have h2 : wgD x + 2 + wgA r ≤ w := h2
    rw [PyData.depthAll] at h3
    have h3 := Nat.max_le.mp h3
    rcases List.mem_cons.mp m with rfl | m
    · exact ⟨h1.1, by omega, h3.1⟩
    · exact AnA.mem ⟨h1.2, by omega, h3.2⟩ d m
theorem An.tup {ds : List PyData} {w k : Nat} (h : An (.tuple ds) w (k + 1)) : AnA ds w k := by
  obtain ⟨h1, h2, h3⟩ := h
  have h2 : wgA ds + 4 ≤ w := h2
  rw [PyData.depth] at h3
  exact ⟨h1, by omega, by omega⟩
theorem AnA.len : ∀ {ds : List PyData} {w k : Nat}, AnA ds w k → 2 * ds.length ≤ w
  | [], _, _, _ => Nat.zero_le _
  | x :: r, w, k, h => by
    obtain ⟨h1, h2, h3⟩ := h
    have h1 : (anyD x && anyA r) = true := h1
    rw [Bool.and_eq_true] at h1
    have h2 : wgD x + 2 + wgA r ≤ w := h2
    have := AnA.len (ds := r) (w := w - 2) (k := PyData.depthAll r) ⟨h1.2, by omega, Nat.le_refl _⟩
    rw [List.length_cons]
    omega
theorem AnA.append : ∀ {as bs : List PyData} {w w' k : Nat}, AnA as w k → AnA bs w' k → AnA (as ++ bs) (w + w') k
  | [], _, _, _, _, _, h => h.mono (by omega) (Nat.le_refl _)
  | a :: as, bs, w, w', k, h, h' => by
    obtain ⟨h1, h2, h3⟩ := h
    have h1 : (anyD a && anyA as) = true := h1
    rw [Bool.and_eq_true] at h1
    have h2 : wgD a + 2 + wgA as ≤ w := h2
    rw [PyData.depthAll] at h3
    have h3 := Nat.max_le.mp h3
    have := AnA.append (as := as) (bs := bs) (w := w - 2 - wgD a) ⟨h1.2, by omega, h3.2⟩ h'
    exact (an_cons (w := wgD a) ⟨h1.1, Nat.le_refl _, h3.1⟩ this).mono (by omega) (Nat.le_refl _)
/-- a part of the items, in any order and with repeats: no longer than so many times the longest -/
theorem AnA.part {as bs : List PyData} {w k : Nat} (h : AnA as w k) (hs : ∀ b ∈ bs, b ∈ as) : AnA bs (bs.length * (w + 2)) k := AnA.of_mem fun d m => h.mem d (hs d m)
theorem AnA.sub {as bs : List PyData} {w k : Nat} (h : AnA as w k) (hs : bs.Sublist as) : AnA bs w k := by
  induction hs generalizing w with
  | slnil => exact h
  | cons a s ih =>
    obtain ⟨h1, h2, h3⟩ := h
    have h1 : (anyD a && anyA _) = true := h1
    rw [Bool.and_eq_true] at h1
    have h2 : wgD a + 2 + wgA _ ≤ w := h2
    rw [PyData.depthAll] at h3
    exact ih ⟨h1.2, by omega, (Nat.max_le.mp h3).2⟩
  | cons_cons a s ih =>
    obtain ⟨h1, h2, h3⟩ := h
    have h1 : (anyD a && anyA _) = true := h1
    rw [Bool.and_eq_true] at h1
    have h2 : wgD a + 2 + wgA _ ≤ w := h2
    rw [PyData.depthAll] at h3
    have h3 := Nat.max_le.mp h3
    exact (an_cons (w := wgD a) ⟨h1.1, Nat.le_refl _, h3.1⟩ (ih (w := w - 2 - wgD a) ⟨h1.2, by omega, h3.2⟩)).mono (by omega) (Nat.le_refl _)
mutual
theorem any_plain : ∀ d : PyData, plainD d = true → anyD d = true ∧ wgD d = wtD d
  | .none, _ => ⟨rfl, rfl⟩
  | .bool _, _ => ⟨rfl, rfl⟩
  | .int i, h => ⟨h, rfl⟩
  | .str _, h => ⟨h, rfl⟩
  | .list xs, h => by
    obtain ⟨a, b⟩ := anyA_plain xs h
    exact ⟨a, by rw [wgD, wtD, b]⟩
  | .tuple xs, h => by
    obtain ⟨a, b⟩ := anyA_plain xs h
    exact ⟨a, by rw [wgD, wtD, b]⟩
  | .dict es, h => by cases h
theorem anyA_plain : ∀ xs : List PyData, plainA xs = true → anyA xs = true ∧ wgA xs = wtA xs
  | [], _ => ⟨rfl, rfl⟩
  | x :: r, h => by
    have h : (plainD x && plainA r) = true := h
    rw [Bool.and_eq_true] at h
    obtain ⟨a, b⟩ := any_plain x h.1
    obtain ⟨c, d⟩ := anyA_plain r h.2
    rw [anyA, wgA, wtA, a, b, c, d]
    exact ⟨rfl, rfl⟩
end
theorem Sh.any {d : PyData} {w k : Nat} (h : Sh d w k) : An d w k := ⟨(any_plain d h.1).1, by rw [(any_plain d h.1).2]; exact h.2.1, h.2.2⟩
theorem ShA.any {d : List PyData} {w k : Nat} (h : ShA d w k) : AnA d w k := ⟨(anyA_plain d h.1).1, by rw [(anyA_plain d h.1).2]; exact h.2.1, h.2.2⟩
end Mi
/-! The same, with small ints counted as small. -/
namespace Mi
open PySem L2
mutual
def whD : PyData → Nat
  | .none => 4
  | .bool _ => 5
  | .int i => if i.natAbs < 1048576 then 25 else 1925
  | .str x => 10 * x.length + 2
  | .list xs => whA xs + 4
  | .tuple xs => whA xs + 4
  | .dict es => whK es + 4
def whA : List PyData → Nat
  | [] => 0
  | x :: r => whD x + 2 + whA r
def whK : List (PyData × PyData) → Nat
  | [] => 0
  | (a, b) :: r => whD a + whD b + 4 + whK r
end
mutual
theorem bny_le : ∀ d : PyData, anyD d = true → d.shown.length ≤ whD d
  | .none, _ => by show (("None" : String) : Str).length ≤ 4; decide
  | .bool true, _ => by show (("True" : String) : Str).length ≤ 5; decide
  | .bool false, _ => by show (("False" : String) : Str).length ≤ 5; decide
  | .int i, h => by
    show _ ≤ if i.natAbs < 1048576 then 25 else 1925
    split
    · rename_i hs
      have hl : i.natAbs.log2 < 20 := by
        by_cases h0 : i.natAbs = 0
        · rw [h0]; decide
        · exact (Nat.log2_lt h0).mpr (by omega)
      have := int_text_length_le (k := 20) (by decide) hl
      show (Str.ofString (toString i)).length ≤ 25
      rw [ofString_length]
      omega
    · exact shown_le (.int i) h
  | .str x, h => shown_le (.str x) h
  | .list xs, h => by
    have := bnyA_le xs h
    exact Nat.le_trans (by rw [PyData.shown]; exact listText_le _) (show piled (PyData.shownAll xs) + 4 ≤ whA xs + 4 by omega)
  | .tuple xs, h => by
    have := bnyA_le xs h
    exact Nat.le_trans (by rw [PyData.shown]; exact tupleText_le _) (show piled (PyData.shownAll xs) + 4 ≤ whA xs + 4 by omega)
  | .dict es, h => by
    have := bnyK_le es h
    exact Nat.le_trans (by rw [PyData.shown]; exact dictText_le _) (show piled (PyData.shownKv es) + 4 ≤ whK es + 4 by omega)
theorem bnyA_le : ∀ xs : List PyData, anyA xs = true → piled (PyData.shownAll xs) ≤ whA xs
  | [], _ => by rw [PyData.shownAll]; exact Nat.le_refl 0
  | x :: r, h => by
    have h : (anyD x && anyA r) = true := h
    rw [Bool.and_eq_true] at h
    have h1 := bny_le x h.1
    have h2 := bnyA_le r h.2
    rw [PyData.shownAll, piled_cons]
    show _ ≤ whD x + 2 + whA r
    omega
theorem bnyK_le : ∀ xs : List (PyData × PyData), anyK xs = true → piled (PyData.shownKv xs) ≤ whK xs
  | [], _ => by rw [PyData.shownKv]; exact Nat.le_refl 0
  | (a, b) :: r, h => by
    have h : (anyD a && anyD b && anyK r) = true := h
    rw [Bool.and_eq_true, Bool.and_eq_true] at h
    have h1 := bny_le a h.1.1
    have h3 := bny_le b h.1.2
    have h2 := bnyK_le r h.2
    rw [PyData.shownKv, piled_cons, strLen_append, strLen_append]
    have e1 : (((": " : String) : Str)).length = 2 := rfl
    show _ ≤ whD a + whD b + 4 + whK r
    omega
end
/-- any data, no longer than w, no deeper than k -/
def Bn (d : PyData) (w k : Nat) : Prop := anyD d = true ∧ whD d ≤ w ∧ d.depth ≤ k
def BnA (ds : List PyData) (w k : Nat) : Prop := anyA ds = true ∧ whA ds ≤ w ∧ PyData.depthAll ds ≤ k
theorem Bn.mono {d : PyData} {w k w' k' : Nat} (h : Bn d w k) (h1 : w ≤ w') (h2 : k ≤ k') : Bn d w' k' := ⟨h.1, Nat.le_trans h.2.1 h1, Nat.le_trans h.2.2 h2⟩
theorem BnA.mono {d : List PyData} {w k w' k' : Nat} (h : BnA d w k) (h1 : w ≤ w') (h2 : k ≤ k') : BnA d w' k' := ⟨h.1, Nat.le_trans h.2.1 h1, Nat.le_trans h.2.2 h2⟩
theorem Bn.repr {d : PyData} {w k : Nat} (h : Bn d w k) (h1 : w ≤ 16777216) (h2 : k ≤ 60) : reprE [d] = some (.str d.shown) :=
  if_pos ⟨any_ok d h.1, Nat.le_trans (bny_le d h.1) (Nat.le_trans h.2.1 h1), Nat.le_trans h.2.2 h2⟩
theorem bn_nil {k : Nat} : BnA [] 0 k := ⟨rfl, Nat.le_refl 0, by rw [PyData.depthAll]; exact Nat.zero_le _⟩
theorem bn_cons {d : PyData} {ds : List PyData} {w w' k : Nat} (h : Bn d w k) (h2 : BnA ds w' k) : BnA (d :: ds) (w + 2 + w') k := by
  refine ⟨?_, ?_, ?_⟩
  · show (anyD d && anyA ds) = true
    rw [h.1, h2.1]
    rfl
  · have := h.2.1
    have := h2.2.1
    show whD d + 2 + whA ds ≤ _
    omega
  · rw [PyData.depthAll]
    exact Nat.max_le.mpr ⟨h.2.2, h2.2.2⟩
theorem bn_tup {ds : List PyData} {w k : Nat} (h : BnA ds w k) : Bn (.tuple ds) (w + 4) (k + 1) := by
  refine ⟨h.1, ?_, ?_⟩
  · have := h.2.1
    show whA ds + 4 ≤ _
    omega
  · have := h.2.2
    rw [PyData.depth]
    omega
theorem bn_lst {ds : List PyData} {w k : Nat} (h : BnA ds w k) : Bn (.list ds) (w + 4) (k + 1) := by
  refine ⟨h.1, ?_, ?_⟩
  · have := h.2.1
    show whA ds + 4 ≤ _
    omega
  · have := h.2.2
    rw [PyData.depth]
    omega
theorem BnA.of_mem : ∀ {ds : List PyData} {w k : Nat}, (∀ d ∈ ds, Bn d w k) → BnA ds (ds.length * (w + 2)) k
  | [], _, _, _ => bn_nil.mono (Nat.zero_le _) (Nat.le_refl _)
  | d :: ds, w, k, h => by
    have h1 := h d (List.mem_cons_self ..)
    have h2 := BnA.of_mem (fun d m => h d (List.mem_cons_of_mem _ m))
    refine (bn_cons h1 h2).mono ?_ (Nat.le_refl _)
    rw [List.length_cons, Nat.add_mul, Nat.one_mul]
    omega
theorem BnA.mem : ∀ {ds : List PyData} {w k : Nat}, BnA ds w k → ∀ d ∈ ds, Bn d w k
  | x :: r, w, k, h, d, m => by
    obtain ⟨h1, h2, h3⟩ := h
    have h1 : (anyD x && anyA r) = true := h1
    rw [Bool.and_eq_true] at h1
    have h2 : whD x + 2 + whA r ≤ w := h2
    rw [PyData.depthAll] at h3
    have h3 := Nat.max_le.mp h3
    rcases List.mem_cons.mp m with rfl | m
    · exact ⟨h1.1, by omega, h3.1⟩
    · exact BnA.mem ⟨h1.2, by omega, h3.2⟩ d m
theorem Bn.tup {ds : List PyData} {w k : Nat} (h : Bn (.tuple ds) w (k + 1)) : BnA ds w k := by
  obtain ⟨h1, h2, h3⟩ := h
  have h2 : whA ds + 4 ≤ w := h2
  rw [PyData.depth] at h3
  exact ⟨h1, by omega, by omega⟩
theorem BnA.len : ∀ {ds : List PyData} {w k : Nat}, BnA ds w k → 2 * ds.length ≤ w
  | [], _, _, _ => Nat.zero_le _
  | x :: r, w, k, h => by
    obtain ⟨h1, h2, h3⟩ := h
    have h1 : (anyD x && anyA r) = true := h1
    rw [Bool.and_eq_true] at h1
    have h2 : whD x + 2 + whA r ≤ w := h2
    have := BnA.len (ds := r) (w := w - 2) (k := PyData.depthAll r) ⟨h1.2, by omega, Nat.le_refl _⟩
    rw [List.length_cons]
    omega
theorem BnA.append : ∀ {as bs : List PyData} {w w' k : Nat}, BnA as w k → BnA bs w' k → BnA (as ++ bs) (w + w') k
  | [], _, _, _, _, _, h => h.mono (by omega) (Nat.le_refl _)
  | a :: as, bs, w, w', k, h, h' => by
    obtain ⟨h1, h2, h3⟩ := h
    have h1 : (anyD a && anyA as) = true := h1
    rw [Bool.and_eq_true] at h1
    have h2 : whD a + 2 + whA as ≤ w := h2
    rw [PyData.depthAll] at h3
    have h3 := Nat.max_le.mp h3
    have := BnA.append (as := as) (bs := bs) (w := w - 2 - whD a) ⟨h1.2, by omega, h3.2⟩ h'
    exact (bn_cons (w := whD a) ⟨h1.1, Nat.le_refl _, h3.1⟩ this).mono (by omega) (Nat.le_refl _)
/-- a part of the items, in any order and with repeats: no longer than so many times the longest -/
theorem BnA.part {as bs : List PyData} {w k : Nat} (h : BnA as w k) (hs : ∀ b ∈ bs, b ∈ as) : BnA bs (bs.length * (w + 2)) k := BnA.of_mem fun d m => h.mem d (hs d m)
theorem BnA.sub {as bs : List PyData} {w k : Nat} (h : BnA as w k) (hs : bs.Sublist as) : BnA bs w k := by
  induction hs generalizing w with
  | slnil => exact h
  | cons a s ih =>
    obtain ⟨h1, h2, h3⟩ := h
    have h1 : (anyD a && anyA _) = true := h1
    rw [Bool.and_eq_true] at h1
    have h2 : whD a + 2 + whA _ ≤ w := h2
    rw [PyData.depthAll] at h3
    exact ih ⟨h1.2, by omega, (Nat.max_le.mp h3).2⟩
  | cons_cons a s ih =>
    obtain ⟨h1, h2, h3⟩ := h
    have h1 : (anyD a && anyA _) = true := h1
    rw [Bool.and_eq_true] at h1
    have h2 : whD a + 2 + whA _ ≤ w := h2
    rw [PyData.depthAll] at h3
    have h3 := Nat.max_le.mp h3
    exact (bn_cons (w := whD a) ⟨h1.1, Nat.le_refl _, h3.1⟩ (ih (w := w - 2 - whD a) ⟨h1.2, by omega, h3.2⟩)).mono (by omega) (Nat.le_refl _)
end Mi
/-! Small helps for laws. -/
namespace Mi.TI
open PySem L2
theorem bn_small {i : Int} {k : Nat} (h : i.natAbs < 1000000) : Bn (.int i) 25 k := by
  refine ⟨?_, ?_, by rw [PyData.depth]; exact Nat.zero_le _⟩
  · show decide (i.natAbs.log2 < 1920) = true
    refine decide_eq_true ?_
    by_cases h0 : i.natAbs = 0
    · rw [h0]; decide
    · exact Nat.lt_of_lt_of_le ((Nat.log2_lt h0).mpr (Nat.lt_of_lt_of_le h (by decide : 1000000 ≤ 2 ^ 20))) (by decide)
  · show (if i.natAbs < 1048576 then 25 else 1925) ≤ 25
    rw [if_pos (by omega)]
    exact Nat.le_refl _
theorem bn_nat {n k : Nat} (h : n < 1000000) : Bn (.int (n : Int)) 25 k := bn_small (by rw [Int.natAbs_natCast]; exact h)
theorem bn_int {i : Int} {n k : Nat} (h : i.natAbs < 2 ^ n) (hn : n ≤ 1920) : Bn (.int i) 1925 k := by
  refine ⟨?_, ?_, by rw [PyData.depth]; exact Nat.zero_le _⟩
  · show decide (i.natAbs.log2 < 1920) = true
    refine decide_eq_true ?_
    by_cases h0 : i.natAbs = 0
    · rw [h0]; decide
    · exact Nat.lt_of_lt_of_le ((Nat.log2_lt h0).mpr h) hn
  · show (if i.natAbs < 1048576 then 25 else 1925) ≤ 1925
    split <;> omega
theorem bn_big {m n k : Nat} (h : m < 2 ^ n) (hn : n ≤ 1920) : Bn (.int (m : Int)) 1925 k := bn_int (n := n) (by rw [Int.natAbs_natCast]; exact h) hn
theorem bn_str {x : Str} {w k : Nat} (h : x.cps.all (· < 1114112) = true) (hw : 10 * x.length + 2 ≤ w) : Bn (.str x) w k := ⟨h, hw, by rw [PyData.depth]; exact Nat.zero_le _⟩
theorem bn_none {w k : Nat} (hw : 4 ≤ w) : Bn .none w k := ⟨rfl, hw, by rw [PyData.depth]; exact Nat.zero_le _⟩
theorem bn_bool {b : Bool} {w k : Nat} (hw : 5 ≤ w) : Bn (.bool b) w k := ⟨rfl, hw, by rw [PyData.depth]; exact Nat.zero_le _⟩
theorem bn_mem1 {ds : List PyData} {w k : Nat} (h : Bn (.tuple ds) w (k + 1)) {d : PyData} (m : d ∈ ds) : Bn d w k := h.tup.mem d m
theorem l_dict0 {T : Type} {ρ : Env} {t : T} {Q : PyData → T → Prop} (q : Q (.dict []) t) : Eg (fun (_ : Env) (t : T) => some (PyData.dict [], t)) ρ t Q := ⟨_, _, rfl, q⟩
theorem s_seq_if {T : Type} {c : Env → T → Option (Bool × T)} {A S : MS T} {ρ : Env} {t : T} {N : Env → T → Prop} {R : PyData → T → Prop} {B C : Env → T → Prop} (hc : Eg c ρ t fun b t' => t' = t ∧ (b = true → Es A ρ t No R No No)) (hT : Es S ρ t N R B C) : Es (mSeq (mIfS c A mSkip) S) ρ t N R B C := by
  obtain ⟨b, t', e, rfl, hA⟩ := hc
  refine s_seq (s_if ⟨b, t', e, ?_⟩)
  cases b with
  | true =>
    rw [if_pos rfl]
    obtain ⟨r, t2, e2, q2⟩ := hA rfl
    refine ⟨r, t2, e2, ?_⟩
    cases r with
    | rt d => exact q2
    | nx ρ => exact q2.elim
    | bk ρ => exact q2.elim
    | ct ρ => exact q2.elim
  | false =>
    rw [if_neg (by decide)]
    exact s_skip hT
theorem list_of (xs : List PyData) : listD [.tuple xs] = some (.list xs) := rfl
theorem list_ofL (xs : List PyData) : listD [.list xs] = some (.list xs) := rfl
theorem sl_gen (xs : List PyData) (lo hi : Option Int) : sliceD (.tuple xs) lo hi = some (.tuple (cutL xs lo hi)) := rfl
theorem cut_sub {α : Type} (xs : List α) (lo hi : Option Int) : (cutL xs lo hi).Sublist xs := (List.take_sublist _ _).trans (List.drop_sublist _ _)
theorem o_tt {as bs : List PyData} (h : as.length + bs.length ≤ 1000000) : addD (.tuple as) (.tuple bs) = some (.tuple (as ++ bs)) := if_pos (fits h)
theorem o_ll {as bs : List PyData} (h : as.length + bs.length ≤ 1000000) : addD (.list as) (.list bs) = some (.list (as ++ bs)) := if_pos (fits h)
theorem sl_to (xs : List PyData) (n : Nat) : sliceD (.tuple xs) none (some (n : Int)) = some (.tuple (xs.take n)) := by
  show some (PyData.tuple (cutL xs none (some (n : Int)))) = _
  rw [cutL_take]
theorem sl_from (xs : List PyData) (n : Nat) : sliceD (.tuple xs) (some (n : Int)) none = some (.tuple (xs.drop n)) := by
  show some (PyData.tuple (cutL xs (some (n : Int)) none)) = _
  rw [cutL_drop]
theorem ne_int (a b : Int) : neD (.int a) (.int b) = some (.bool (!decide (a = b))) := by
  show some (PyData.bool (!(a == b))) = _
  congr 3
theorem eq_int (a b : Int) : eqD (.int a) (.int b) = some (.bool (decide (a = b))) := by
  show some (PyData.bool ((a == b))) = _
  congr 2
theorem lt_is {i j : Int} {b : Bool} (h : b = true ↔ i < j) : ltD (.int i) (.int j) = some (.bool b) := by
  show some (PyData.bool (decide (i < j))) = _
  congr 2
  rw [Bool.eq_iff_iff, decide_eq_true_eq]
  exact h.symm
theorem gt_is {i j : Int} {b : Bool} (h : b = true ↔ j < i) : gtD (.int i) (.int j) = some (.bool b) := by
  show some (PyData.bool (decide (j < i))) = _
  congr 2
  rw [Bool.eq_iff_iff, decide_eq_true_eq]
  exact h.symm
theorem drop_at {α : Type} {xs : List α} {j : Nat} {o : α} (h : xs[j]? = some o) : xs.drop j = o :: xs.drop (j + 1) := by
  obtain ⟨hlt, he⟩ := List.getElem?_eq_some_iff.mp h
  rw [List.drop_eq_getElem_cons hlt, he]
theorem ix0 (d : PyData) (ops : List PyData) : ixD (.tuple (d :: ops)) (.int 0) = some d := atI_nat (j := 0) rfl
theorem ix1 (d e : PyData) (ops : List PyData) : ixD (.tuple (d :: e :: ops)) (.int 1) = some e := atI_nat (j := 1) rfl
theorem ix2 (d e f : PyData) (ops : List PyData) : ixD (.tuple (d :: e :: f :: ops)) (.int 2) = some f := atI_nat (j := 2) rfl
theorem pow30 : powD (.int 10) (.int 30) = some (.int (10 ^ 30)) := rfl
theorem shl1 {j : Int} (h0 : 0 ≤ j) (h : j ≤ 100000) : shlD (.int 1) (.int j) = some (.int ((2 ^ j.toNat : Nat) : Int)) := by
  have b1 : (Builtin.Int.intBits 1 : Int) = 1 := by decide
  show (if 0 ≤ j ∧ (Builtin.Int.intBits 1 : Int) + j ≤ 2 ^ 27 then some (PyData.int (1 * 2 ^ j.toNat)) else none) = _
  rw [if_pos ⟨h0, by rw [b1]; omega⟩, Int.one_mul]
  push_cast
  rfl
theorem shlN {n : Nat} (h : n ≤ 100000) : shlD (.int 1) (.int (n : Int)) = some (.int ((2 ^ n : Nat) : Int)) := by
  have := shl1 (j := (n : Int)) (by omega) (by omega)
  rwa [Int.toNat_natCast] at this
theorem mulN {a b : Nat} (ha : a < 2 ^ 1000) (hb : b < 2 ^ 1000) : mulD (.int (a : Int)) (.int (b : Int)) = some (.int ((a * b : Nat) : Int)) := by
  have : mulD (.int (a : Int)) (.int (b : Int)) = some (.int ((a : Int) * b)) := mulI_ok (a := 1000) (b := 1000) (by rw [Int.natAbs_natCast]; exact ha) (by rw [Int.natAbs_natCast]; exact hb) (by decide)
  rw [this]
  push_cast
  rfl
theorem addN (a b : Nat) : addD (.int (a : Int)) (.int (b : Int)) = some (.int ((a + b : Nat) : Int)) := by
  show some (PyData.int ((a : Int) + b)) = _
  push_cast
  rfl
end Mi.TI
/-! More small helps. -/
namespace Mi.TI
open PySem L2
theorem drawT {n : Int} {t : Tr} {z : Int} (m : Nat) {P : PyData → Tr → Prop} (e : z = (m : Int)) (h : TA.TrOk n t) (hn : n ≤ 1000000000) (h0 : 1 ≤ m) (hm : m ≤ 1000000) (q : ∀ (r : Nat) (t' : Tr), TA.TrOk (n + 1) t' → r < m → P (.int r) t') : ∃ z' t2, TA.f__law_draw t [.int z] = some (z', t2) ∧ P z' t2 := by
  subst e
  obtain ⟨r, t', e, h', hr⟩ := TA.draw h hn (pow_small hm)
  exact ⟨_, _, e, q r t' h' (by omega)⟩
theorem pickT {n : Int} {t : Tr} {xs : List PyData} {P : PyData → Tr → Prop} (h : TA.TrOk n t) (hn : n ≤ 1000000000) (hx : xs ≠ []) (hl : xs.length < 1000000) (q : ∀ (x : PyData) (t' : Tr), TA.TrOk (n + 1) t' → x ∈ xs → P x t') : ∃ z t2, TA.f__law_pick t [.list xs] = some (z, t2) ∧ P z t2 := by
  obtain ⟨x, t', e, h', hr⟩ := TA.pick h hn hx hl
  exact ⟨_, _, e, q x t' h' hr⟩
theorem ixN_nat {n k : Nat} (h : k < n) (hn : n ≤ 1000000) : ixN n (k : Int) = some k := by
  unfold ixN
  rw [if_pos (by omega), if_pos (by omega), Int.toNat_natCast]
theorem s_putAt {T : Type} {i : Nat} {fk fa : ME T} {ρ : Env} {t : T} {N : Env → T → Prop} {R : PyData → T → Prop} {B C : Env → T → Prop}
    (h : Ef fa ρ t fun d t1 => Ef fk ρ t1 fun z t2 => ∃ (k : Int) (ds : List PyData) (n : Nat), z = .int k ∧ ρ[i]? = some (some (.own (.list ds))) ∧ ixN ds.length k = some n ∧ N (ρ.set i (some (.own (.list (ds.set n d))))) t2) : Es (mPutAt i fk fa) ρ t N R B C := by
  obtain ⟨d, t1, e1, z, t2, e2, k, ds, n, rfl, e3, e4, q⟩ := h
  refine ⟨.nx _, t2, ?_, q⟩
  unfold mPutAt
  rw [e1]
  dsimp only
  rw [e2]
  dsimp only
  rw [e3]
  dsimp only
  rw [e4]
theorem kept_cons {r : Rv} {rs : List Rv} {ds : List PyData} (h : kept (r :: rs) = some ds) : ∃ d ds', r = .fro d ∧ kept rs = some ds' ∧ ds = d :: ds' := by
  cases r with
  | fro d =>
    unfold kept at h
    cases z : kept rs with
    | none => rw [z] at h; cases h
    | some l => rw [z] at h; cases h; exact ⟨d, l, rfl, rfl, rfl⟩
  | loan i => cases h
  | tray k => cases h
theorem kept_nil {rs : List Rv} (h : kept rs = some []) : rs = [] := by
  cases rs with
  | nil => rfl
  | cons r rs => obtain ⟨_, _, _, _, e⟩ := kept_cons h; cases e
/-- numbers from i on -/
def fromD (i : Int) (n : Nat) : List PyData := (List.range n).map fun (k : Nat) => PyData.int (i + (k : Int))
theorem fromD_at {i : Int} {n j : Nat} {d : PyData} (h : (fromD i n)[j]? = some d) : j < n ∧ d = .int (i + (j : Int)) := by
  unfold fromD at h
  rw [List.getElem?_map] at h
  by_cases hj : j < n
  · rw [List.getElem?_range hj] at h
    cases h
    exact ⟨hj, rfl⟩
  · rw [List.getElem?_eq_none (by rw [List.length_range]; omega)] at h
    cases h
theorem fromD_len (i : Int) (n : Nat) : (fromD i n).length = n := by rw [fromD, List.length_map, List.length_range]
theorem i_range2 {T : Type} {ρ : Env} {t : T} {fs : Env → T → Option (List Rv × T)} {QL : List PyData → T → Prop} (h : Ek fs ρ t fun ds t1 => ∃ i j : Int, ds = [.int i, .int j] ∧ (-1000000000 ≤ i ∧ i < 1000000000 ∧ -1000000000 ≤ j ∧ j < 1000000000) ∧ QL (fromD i (j - i).toNat) t1) : Eg (mRange2 fs) ρ t QL := by
  obtain ⟨rs, t1, _, e, ek, i, j, rfl, hj, q⟩ := h
  have : rs = [.fro (.int i), .fro (.int j)] := by
    cases rs with
    | nil => cases ek
    | cons r rs =>
      obtain ⟨d, ds, rfl, h2, e1⟩ := kept_cons ek
      cases e1
      cases rs with
      | nil => cases h2
      | cons r rs =>
        obtain ⟨d, ds, rfl, h3, e1⟩ := kept_cons h2
        cases e1
        rw [kept_nil h3]
  subst this
  refine ⟨_, t1, ?_, q⟩
  unfold mRange2
  rw [e]
  have hc : ∀ i j : Int, (-1000000000 ≤ i ∧ i < 1000000000 ∧ -1000000000 ≤ j ∧ j < 1000000000) → -(2 ^ 62) ≤ i ∧ i < 2 ^ 62 ∧ -(2 ^ 62) ≤ j ∧ j < 2 ^ 62 := fun i j h => ⟨by omega, by omega, by omega, by omega⟩
  exact if_pos (hc i j hj)
theorem ex_rng2 {a b : Int} {P : Int → Int → Prop} (q : P a b) : ∃ c d, [PyData.int a, PyData.int b] = [.int c, .int d] ∧ P c d := ⟨a, b, rfl, q⟩
theorem ix_nats {xs : List Nat} {j : Nat} {x : Nat} (h : xs[j]? = some x) : ixD (.tuple (natsD xs)) (.int (j : Int)) = some (.int (x : Int)) := atI_nat (by unfold natsD; rw [List.getElem?_map, h]; rfl)
theorem ixL_nats {xs : List Nat} {j : Nat} {x : Nat} (h : xs[j]? = some x) : ixD (.list (natsD xs)) (.int (j : Int)) = some (.int (x : Int)) := atI_nat (by unfold natsD; rw [List.getElem?_map, h]; rfl)
theorem shr_nat (a n : Nat) : shrD (.int (a : Int)) (.int (n : Int)) = some (.int ((a / 2 ^ n : Nat) : Int)) := by
  have key : ∀ j : Int, 0 ≤ j → shrD (.int (a : Int)) (.int j) = some (.int ((a : Int) / 2 ^ j.toNat)) := fun j h => if_pos h
  rw [key n (by omega), Int.toNat_natCast]
  push_cast
  rfl
theorem and_bit (a i : Nat) : andD (.int ((a / 2 ^ i : Nat) : Int)) (.int 1) = some (.int ((bitN a i : Nat) : Int)) := by
  show some (PyData.int (Builtin.bitAnd ((a / 2 ^ i : Nat) : Int) 1)) = _
  have := and_one a i
  rw [← this]
  push_cast
  rfl
theorem subN {a b : Nat} (h : b ≤ a) : subD (.int (a : Int)) (.int (b : Int)) = some (.int ((a - b : Nat) : Int)) := by
  show some (PyData.int ((a : Int) - b)) = _
  congr 2
  omega
theorem mach_bn {many : Nat} {M : List (List (Nat × Nat))} (ok : OkM many M) (hm : many ≤ 2) (hl : M.length ≤ 24) : Bn (machD many M) 8000 6 := by
  have hp : ∀ r ∈ M, Bn (rowD r) 300 2 := fun r mr => by
    have hr := ok.row r mr
    have hlen := hr.len
    have h4 : r.length ≤ 4 := by
      rw [hlen]
      exact Nat.pow_le_pow_right (n := 2) (by decide) hm
    have e : BnA (r.map pairD) ((r.map pairD).length * (58 + 2)) 1 := BnA.of_mem fun d m => by
      obtain ⟨p, mp, rfl⟩ := List.mem_map.mp m
      have g1 := hr.goal p mp
      have g2 := hr.bit p mp
      exact (bn_tup (bn_cons (bn_small (i := (p.1 : Int)) (k := 0) (by omega)) (bn_cons (bn_small (i := (p.2 : Int)) (k := 0) (by omega)) bn_nil))).mono (by decide) (by decide)
    rw [List.length_map] at e
    exact (bn_tup e).mono (by omega) (by decide)
  have e : BnA (M.map rowD) ((M.map rowD).length * (300 + 2)) 2 := BnA.of_mem fun d m => by
    obtain ⟨r, mr, rfl⟩ := List.mem_map.mp m
    exact hp r mr
  rw [List.length_map] at e
  exact (bn_tup (bn_cons (bn_small (i := (many : Int)) (k := 3) (by omega)) (bn_cons (bn_tup e) bn_nil))).mono (by omega) (by decide)
theorem bn_nats {xs : List Nat} {k : Nat} (h : ∀ x ∈ xs, x < 1000000) : BnA (natsD xs) (xs.length * 27) k := by
  have e : BnA (natsD xs) ((natsD xs).length * (25 + 2)) k := BnA.of_mem fun d m => by
    obtain ⟨n, mn, rfl⟩ := List.mem_map.mp m
    exact bn_nat (h n mn)
  rw [natsD, List.length_map] at e
  exact e
theorem bn_natsB {xs : List Nat} {n k : Nat} (h : ∀ x ∈ xs, x < 2 ^ n) (hn : n ≤ 1920) : BnA (natsD xs) (xs.length * 1927) k := by
  have e : BnA (natsD xs) ((natsD xs).length * (1925 + 2)) k := BnA.of_mem fun d m => by
    obtain ⟨x, mx, rfl⟩ := List.mem_map.mp m
    exact bn_big (h x mx) hn
  rw [natsD, List.length_map] at e
  exact e
theorem rng_ok {n : Nat} (h : n ≤ 1000000) : -(2 ^ 62) ≤ (n : Int) ∧ (n : Int) < 2 ^ 62 := by omega
end Mi.TI
/-! k18: the program's defs. -/
namespace Mi.K18
open PySem L2 RS TI
local macro_rules | `(tactic| walk_at "op") => `(tactic| with_reducible first
  | exact o_add | exact o_addI | exact o_sub | exact o_lt | exact o_le | exact o_gt | exact o_ge | exact o_eqI | exact o_neI | exact o_eqS | exact o_neS | exact o_neg | exact o_inv | exact o_and | exact o_or | exact o_xor
  | exact o_int | exact o_intB | exact o_abs | exact o_tupL | exact o_tupT | exact o_lenL | exact o_lenT | exact o_isN | exact o_isNotN)
local macro_rules | `(tactic| walk_at "ix") => `(tactic| ((with_reducible apply o_ixA); (first | apply o_ixL | apply o_ixT | apply o_dixS); focus rfl))
local macro_rules | `(tactic| walk_at "op2") => `(tactic| first
  | ((with_reducible apply o_inA); focus rfl)
  | ((with_reducible apply o_notInA); focus rfl)
  | (with_reducible (first | refine o_addL ?_ | refine o_addT ?_); simp only [List.length_cons, List.length_nil]; decide)
  | ((with_reducible apply o_modA); focus (exact mod_ok (by decide)))
  | ((with_reducible apply o_fdivA); focus (exact o_fdiv (by decide) (by decide))))
local macro_rules | `(tactic| walk_at "call") => `(tactic| fail)
local macro_rules | `(tactic| walk_at "s") => `(tactic| first
  | ((with_reducible apply s_set_env); focus (dsimp only [List.set] <;> rfl))
  | ((with_reducible apply f_callPK); (focus rfl); (focus rfl))
  | with_reducible first
    | refine s_seq ?_ | refine d_f (f_bin ?_) | refine d_f (f_c ?_) | refine s_set ?_ | refine v_rv ?_ | refine s_if ?_ | refine b_test ?_ | refine f_bin ?_ | refine f_c ?_ | refine s_ret ?_ | refine s_skip ?_
    | refine r_cons ?_ | refine r_nil ?_ | refine a_consT ?_ | refine a_nil ?_ | refine k_cons ?_ | refine k_nil ?_ | refine a_consF ?_
    | refine f_call ?_ | refine f_callP ?_ | refine f_keep ?_ | refine f_tup ?_ | refine f_if ?_ | refine f_andV ?_ | refine f_orV ?_ | refine f_notV ?_ | refine f_isi ?_ | refine f_sl ?_ | refine f_un ?_ | refine f_chain ?_
    | refine b_and ?_ | refine b_or ?_ | refine b_not ?_ | refine b_yes ?_
    | refine s_asg ?_ | refine s_app ?_ | refine s_par ?_ | refine s_pars ?_ | refine s_drop ?_ | refine s_retN ?_ | refine s_break ?_ | refine s_cont ?_ | refine s_end ?_ | refine s_setP ?_ | refine s_dropP ?_ | refine s_appP ?_ | refine p_at ?_ | refine p_end ?_ | refine s_par3 ?_ | refine ex_three ?_ | refine i_zip ?_ | refine zz_L ?_ | refine zz_T ?_ | refine l_revL ?_ | refine ex_lst ?_
    | refine l_lst ?_ | refine l_dict ?_ | refine l_listL ?_ | refine o_no ?_ | refine o_part ?_ | refine i_enum ?_ | refine i_range1 ?_ | refine v_new ?_ | refine vs_nil ?_ | refine vs_cons ?_
  | ((with_reducible apply d_v); focus rfl)
  | ((with_reducible apply f_v); focus rfl)
  | ((with_reducible apply s_aug); focus rfl)
  | ((with_reducible apply f_callT); focus rfl)
  | ((with_reducible apply w_b); (focus rfl))
  | ((with_reducible apply i_itemsB); (focus rfl); (focus rfl))
  | with_reducible first | refine d_f ?_ | refine w_f ?_ | refine i_items ?_
  | ((with_reducible refine if_yes ?_ ?_); focus rfl)
  | ((with_reducible refine if_no ?_ ?_); focus rfl)
  | ((with_reducible apply op_ok); focus (first | walk_at "op" | walk_at "ix" | walk_at "op2"))
  | ((with_reducible refine len_ok ?_ ?_); focus (simp only [List.length_cons, List.length_nil]; decide))
  | ((with_reducible refine pk_ok ?_ ?_); focus rfl)
  | ((with_reducible refine lt_ok ?_ ?_); focus (simp only [List.length_append, List.length_cons, List.length_nil]; decide))
  | ((with_reducible refine dict_ok ?_ ?_); focus (exact ⟨rfl, by decide, by decide⟩))
  | ((with_reducible refine par_ok ?_ ?_); focus (refine ⟨?_, rfl⟩; simp only [List.length_cons, List.length_nil]; decide))
  | walk_at "call"
  | with_reducible first | refine ex_bool ?_ | refine ex_int ?_ | refine ex_itL ?_ | refine ex_itT ?_ | refine ex_rng ?_ | refine ex_two ?_ | refine ex_lstL ?_ | refine ex_lstT ?_
  | ((with_reducible apply ex_env); focus rfl)
  | ((with_reducible apply ex_own); focus rfl))
theorem nats_len (xs : List Nat) : (natsD xs).length = xs.length := List.length_map _
theorem i_revR1 {T : Type} {ρ : Env} {t : T} {f : ME T} {QL : List PyData → T → Prop} (h : Ef f ρ t fun d t1 => ∃ n : Nat, d = .int (n : Int) ∧ n ≤ 1000000 ∧ QL (natsD (List.range n).reverse) t1) : Eg (mRevR1 f) ρ t QL := by
  obtain ⟨d, t1, e, n, rfl, hn, q⟩ := h
  refine ⟨_, t1, ?_, q⟩
  unfold mRevR1
  rw [e]
  dsimp only
  rw [if_pos ⟨by omega, by omega⟩, Int.toNat_natCast]
  refine congrArg (fun l => some (l, t1)) ?_
  apply List.ext_getElem?
  intro i
  unfold natsD
  rw [List.getElem?_map, List.getElem?_map]
  by_cases hi : i < n
  · rw [List.getElem?_range hi, List.getElem?_reverse (by rw [List.length_range]; exact hi), List.length_range, List.getElem?_range (by omega)]
    show some (PyData.int ((n : Int) - 1 - (i : Int))) = some (PyData.int ((n - 1 - i : Nat) : Int))
    rw [show ((n - 1 - i : Nat) : Int) = (n : Int) - 1 - (i : Int) by omega]
  · rw [List.getElem?_eq_none (by rw [List.length_range]; omega), List.getElem?_eq_none (by rw [List.length_reverse, List.length_range]; omega)]
    rfl
local macro_rules | `(tactic| walk_at "call") => `(tactic| with_reducible first | refine l_repL ?_ | refine l_catL ?_ | refine l_rg1 ?_ | refine s_putAt ?_ | refine i_revR1 ?_)
theorem operands_of (I : Ins) : f_operands_of [insD I] = some (.tuple (natsD (ops I))) := by
  cases I with
  | zero => rfl
  | ones => rfl
  | un o a => cases o <;> rfl
  | bin o a b => cases o <;> rfl
  | mask bits => rfl
def isMask : Ins → Bool
  | .mask _ => true
  | _ => false
def wordS : Ins → Str
  | .zero => "zero" | .ones => "ones" | .un o _ => o.s | .bin o _ _ => o.s | .mask _ => "mask"
theorem insD_form {I : Ins} (h : isMask I = false) : insD I = .tuple (.str (wordS I) :: natsD (ops I)) := by
  cases I with
  | mask bits => cases h
  | _ => rfl
theorem word_mask (I : Ins) : eqD (.str (wordS I)) (.str "mask") = some (.bool (isMask I)) := by
  cases I with
  | un o a => cases o <;> rfl
  | bin o a b => cases o <;> rfl
  | _ => rfl
theorem head_at (I : Ins) : ixD (insD I) (.int 0) = some (.str (wordS I)) := by cases I <;> exact atI_nat (j := 0) rfl
theorem mask_same {I : Ins} (h : isMask I = true) (f : Nat → Nat) : renum f I = I := by
  cases I with
  | mask bits => rfl
  | _ => cases h
theorem mask_renum (f : Nat → Nat) (I : Ins) : isMask (renum f I) = isMask I ∧ wordS (renum f I) = wordS I := by cases I <;> exact ⟨rfl, rfl⟩
theorem renumbered {I : Ins} {ds : List PyData} {f : Nat → Nat} (hd : ds.length ≤ 100000) (h : ∀ a ∈ ops I, ds[a]? = some (.int (f a : Nat))) : f_renumbered [insD I, .list ds] = some (insD (renum f I)) := by
  refine fun_ok ?_
  refine s_env (ρ' := [some (.bor (insD I)), some (.bor (.list ds)), none]) rfl ?_
  unfold m_renumbered
  have h0 := head_at I
  have hw := word_mask I
  repeat (first | with_reducible (first | refine op_ok h0 ?_ | refine op_ok hw ?_) | walk_at "s")
  refine if_both (fun hm => ?_) (fun hm => ?_)
  · repeat (first | walk_at "s")
    rw [mask_same hm]
    exact f_v (d := insD I) (by cases I <;> rfl) rfl
  · have hs : sliceD (insD I) (some 1) none = some (.tuple (natsD (ops I))) := by
      rw [insD_form hm]
      exact sl_from _ 1
    have ho : (ops I).length ≤ 2 := by cases I <;> simp [ops]
    repeat (first | with_reducible (first | refine op_ok h0 ?_ | refine op_ok hw ?_ | refine op_ok hs ?_) | walk_at "s")
    refine l_lc_map (fun d => match d with | .int a => .int (f a.toNat : Nat) | d => d) ?_
    repeat (first | with_reducible (first | refine op_ok hs ?_) | walk_at "s")
    have hr : (natsD (ops I)).map (fun d => match d with | .int a => PyData.int (f a.toNat : Nat) | d => d) = natsD ((ops I).map f) := by
      unfold natsD
      rw [List.map_map, List.map_map]
      rfl
    rw [hr]
    refine ⟨fits (by rw [nats_len]; omega), fun d hd2 => ?_, ?_⟩
    · obtain ⟨a, ha, rfl⟩ := List.mem_map.mp hd2
      have g : ixD (.list ds) (.int (a : Int)) = some (.int (f a : Nat)) := atI_nat (h a ha)
      refine ex_env rfl ?_
      repeat (first | with_reducible (first | refine op_ok g ?_) | walk_at "s")
      exact ⟨rfl, rfl⟩
    · have ea : addD (.tuple [.str (wordS I)]) (.tuple (natsD ((ops I).map f))) = some (insD (renum f I)) := by
        have hm2 := mask_renum f I
        rw [insD_form (I := renum f I) (by rw [hm2.1]; exact hm), hm2.2, ops_renum]
        exact if_pos (fits (by rw [nats_len, List.length_map, List.length_singleton]; omega))
      repeat (first | with_reducible (first | refine op_ok ea ?_) | walk_at "s")
      rfl
def flags (many : Nat) (rows : List Ins) (d : Nat) : List PyData := (List.range rows.length).map fun j => PyData.bool (mk many rows d j)
theorem flags_len (many : Nat) (rows : List Ins) (d : Nat) : (flags many rows d).length = rows.length := by
  unfold flags
  rw [List.length_map, List.length_range]
theorem flags_at {many : Nat} {rows : List Ins} {d j : Nat} (h : j < rows.length) : (flags many rows d)[j]? = some (.bool (mk many rows d j)) := by
  unfold flags
  rw [List.getElem?_map, List.getElem?_range h]
  rfl
theorem flags_set {rows : List Ins} {u v : Nat → Bool} {j : Nat} (h : ∀ i, v i = (u i || decide (i = j))) : ((List.range rows.length).map fun i => PyData.bool (u i)).set j (.bool true) = (List.range rows.length).map fun i => PyData.bool (v i) := by
  apply List.ext_getElem?
  intro i
  by_cases hi : i < rows.length
  · by_cases e : j = i
    · subst e
      rw [List.getElem?_set_self (by rw [List.length_map, List.length_range]; exact hi), List.getElem?_map, List.getElem?_range hi]
      show _ = some (PyData.bool (v j))
      rw [h, decide_eq_true rfl, Bool.or_true]
    · rw [List.getElem?_set_ne e, List.getElem?_map, List.getElem?_map, List.getElem?_range hi]
      show some (PyData.bool (u i)) = some (PyData.bool (v i))
      rw [h, decide_eq_false (fun z => e z.symm), Bool.or_false]
  · rw [List.getElem?_eq_none (by rw [List.length_set, List.length_map, List.length_range]; omega), List.getElem?_eq_none (by rw [List.length_map, List.length_range]; omega)]
abbrev eU (many : Nat) (rows : List Ins) (u : Nat → Bool) (x4 x5 x6 : Option Val) : Env := [some (.bor (progD many rows)), some (.fro (.int (many : Int))), some (.fro (.tuple (rows.map insD))), some (.own (.list ((List.range rows.length).map fun i => PyData.bool (u i)))), x4, x5, x6]
theorem lc_filt {T : Type} {ρ : Env} {t : T} {Q : PyData → T → Prop} {its : Env → T → Option (List PyData × T)} {g : PyData → Env → Option Env} {c : Env → T → Option (Bool × T)} {f : ME T} {vs : List Nat} (p : PyData → Bool)
    (hi : Eg its ρ t fun ds t1 => ds.length ≤ sizeLine ∧ (∀ d ∈ ds, ∃ ρ1, g d (wipeR ρ vs) = some ρ1 ∧ Eg c ρ1 t1 fun b t2 => (b = p d ∧ t2 = t1) ∧ (b = true → Ef f ρ1 t1 fun x t3 => x = d ∧ t3 = t1)) ∧ Q (.list (ds.filter p)) t1) : Eg (mLc its g c f vs) ρ t Q := by
  obtain ⟨ds, t1, e, hz, hs, q⟩ := hi
  refine l_lc (fun j acc t2 => t2 = t1 ∧ acc = (ds.take j).filter p) ⟨ds, t1, e, hz, ⟨rfl, rfl⟩, ?_, ?_⟩
  · rintro j d acc t2 hj ⟨rfl, rfl⟩
    obtain ⟨ρ1, e1, b, t3, e2, ⟨rfl, rfl⟩, e3⟩ := hs d (List.mem_of_getElem? hj)
    refine ⟨ρ1, e1, p d, t3, e2, ?_⟩
    rw [take_at hj, List.filter_append]
    refine if_both (fun hb => ?_) (fun hb => ?_)
    · refine (e3 hb).mono ?_
      rintro x t4 ⟨rfl, rfl⟩
      exact ⟨rfl, by rw [List.filter_cons_of_pos hb]; rfl⟩
    · exact ⟨rfl, by rw [List.filter_cons_of_neg (by rw [hb]; decide)]; exact (List.append_nil _).symm⟩
  · rintro acc t2 ⟨rfl, rfl⟩
    rw [List.take_length]
    exact q
theorem used_ok {many : Nat} {rows : List Ins} (ok : OkP many rows) (hm : many ≤ 1000) : f__used [progD many rows] = some (.list (natsD (kept many rows))) := by
  refine fun_ok ?_
  refine s_env (ρ' := [some (.bor (progD many rows)), none, none, none, none, none, none]) rfl ?_
  unfold m__used
  have hpos : 0 < rows.length := List.length_pos_iff.mpr ok.pos
  have few := ok.few
  have e0 : lenD [.tuple (rows.map insD)] = some (.int ((rows.length : Nat) : Int)) := by
    show some (PyData.int (((rows.map insD).length : Nat) : Int)) = _
    rw [List.length_map]
  have e1 : repLD (.list [.bool false]) (.int ((rows.length : Nat) : Int)) = some (.list ((List.range rows.length).map fun _ => PyData.bool false)) := by
    rw [repLD_ok (by simp only [List.length_cons, List.length_nil]; omega) (by omega)]
    have : ∀ n : Nat, (List.replicate n [PyData.bool false]).flatten = (List.range n).map fun _ => PyData.bool false := fun n => by
      induction n with
      | zero => rfl
      | succ n ih => rw [List.replicate_succ', List.flatten_append, ih, List.range_succ, List.map_append]; rfl
    rw [this]
  repeat (first | with_reducible (first | refine op_ok e0 ?_ | refine op_ok e1 ?_) | walk_at "s")
  have hix : ixN ((List.range rows.length).map fun _ => PyData.bool false).length (-1) = some (rows.length - 1) := by
    rw [List.length_map, List.length_range]
    unfold ixN
    rw [if_neg (by decide), if_pos (show -(rows.length : Int) ≤ -1 by omega), show (-1 + (rows.length : Int)).toNat = rows.length - 1 by omega]
  refine ⟨-1, _, rows.length - 1, rfl, rfl, hix, ?_⟩
  have hs0 : ((List.range rows.length).map fun _ => PyData.bool false).set (rows.length - 1) (.bool true) = (List.range rows.length).map fun i => PyData.bool (mk many rows 0 i) :=
    flags_set (u := fun _ => false) (v := mk many rows 0) fun i => by
      show (i == rows.length - 1) = (false || decide (i = rows.length - 1))
      rw [Bool.false_or]
      rfl
  rw [hs0]
  repeat (first | walk_at "s")
  refine s_for (fun j ρ _ => j ≤ rows.length → ∃ x4 x5 x6, ρ = eU many rows (mk many rows j) x4 x5 x6) ?_
  repeat (first | with_reducible (first | refine op_ok e0 ?_) | walk_at "s")
  have hln : (natsD (List.range rows.length).reverse).length = rows.length := by rw [nats_len, List.length_reverse, List.length_range]
  refine ⟨rows.length, rfl, by omega, fun _ => ⟨_, _, _, rfl⟩, ?_, ?_⟩
  · rintro j d ρ ⟨⟩ hj hP
    have hjl := lt_at hj
    rw [hln] at hjl
    obtain ⟨x4, x5, x6, rfl⟩ := hP (by omega)
    obtain ⟨k, hk, rfl⟩ := natsD_at hj
    rw [List.getElem?_reverse (by rw [List.length_range]; exact hjl), List.length_range, List.getElem?_range (by omega)] at hk
    have hk : rows.length - 1 - j = k := Option.some.inj hk
    have hkl : k < rows.length := by omega
    have g1 : ixD (.list ((List.range rows.length).map fun i => PyData.bool (mk many rows j i))) (.int (k : Int)) = some (.bool (mk many rows j k)) := atI_nat (by rw [List.getElem?_map, List.getElem?_range hkl]; rfl)
    have hI : rows[k]? = some (rows.getD k .zero) := by rw [List.getD_eq_getElem?_getD, List.getElem?_eq_getElem hkl]; rfl
    have g2 : ixD (.tuple (rows.map insD)) (.int (k : Int)) = some (insD (rows.getD k .zero)) := atI_nat (by rw [List.getElem?_map, hI]; rfl)
    have g3 := operands_of (rows.getD k .zero)
    have hop := row_ops ok hkl
    have hmk : ∀ p, mk many rows (j + 1) p = (mk many rows j p || (mk many rows j k && (ops (rows.getD k .zero)).contains (many + p))) := fun p => by
      show (mk many rows j p || (mk many rows j (rows.length - 1 - j) && (ops (rows.getD (rows.length - 1 - j) .zero)).contains (many + p))) = _
      rw [hk]
    refine ex_env rfl ?_
    repeat (first | with_reducible (first | refine op_ok g1 ?_) | walk_at "s")
    refine if_both (fun hb => ?_) (fun hb => ?_)
    · repeat (first | with_reducible (first | refine op_ok g2 ?_ | refine op_ok g3 ?_) | walk_at "s")
      refine s_for (fun i ρ _ => ∃ x5 x6, ρ = eU many rows (fun p => mk many rows j p || ((ops (rows.getD k .zero)).take i).contains (many + p)) (some (.fro (.int (k : Int)))) x5 x6) ?_
      repeat (first | with_reducible (first | refine op_ok g2 ?_ | refine op_ok g3 ?_) | walk_at "s")
      have u0 : (fun p => mk many rows j p || ((ops (rows.getD k .zero)).take 0).contains (many + p)) = mk many rows j := by
        funext p
        rw [List.take_zero]
        exact Bool.or_false _
      refine ⟨⟨_, _, by rw [u0]⟩, ?_, ?_⟩
      · rintro i d ρ ⟨⟩ hi ⟨y5, y6, rfl⟩
        obtain ⟨a, ha, rfl⟩ := natsD_at hi
        have hak := hop a (List.mem_of_getElem? ha)
        refine ex_env rfl ?_
        repeat (first | walk_at "s")
        refine if_both (fun hge => ?_) (fun hge => ?_)
        · have hge : (many : Int) ≤ (a : Int) := of_decide_eq_true hge
          have e3 : subD (.int (a : Int)) (.int (many : Int)) = some (.int ((a - many : Nat) : Int)) := subN (by omega)
          repeat (first | with_reducible (first | refine op_ok e3 ?_) | walk_at "s")
          refine ⟨_, _, a - many, rfl, rfl, ixN_nat (by rw [List.length_map, List.length_range]; omega) (by rw [List.length_map, List.length_range]; omega), ?_⟩
          rw [flags_set (v := fun p => mk many rows j p || ((ops (rows.getD k .zero)).take (i + 1)).contains (many + p)) fun p => ?_]
          · exact ⟨_, _, rfl⟩
          · show (mk many rows j p || ((ops (rows.getD k .zero)).take (i + 1)).contains (many + p)) = _
            rw [take_at ha, Bool.or_assoc]
            refine congrArg (fun z => mk many rows j p || z) ?_
            rw [Bool.eq_iff_iff, Bool.or_eq_true, List.contains_iff_mem, List.contains_iff_mem, List.mem_append, List.mem_singleton, decide_eq_true_eq]
            constructor
            · rintro (h | h)
              · exact .inl h
              · exact .inr (by omega)
            · rintro (h | h)
              · exact .inl h
              · exact .inr (by omega)
        · have hge : ¬ (many : Int) ≤ (a : Int) := of_decide_eq_false hge
          repeat (first | walk_at "s")
          have e4 : (fun p => mk many rows j p || ((ops (rows.getD k .zero)).take (i + 1)).contains (many + p)) = fun p => mk many rows j p || ((ops (rows.getD k .zero)).take i).contains (many + p) := by
            funext p
            rw [take_at ha]
            refine congrArg (fun z => mk many rows j p || z) ?_
            rw [Bool.eq_iff_iff, List.contains_iff_mem, List.contains_iff_mem, List.mem_append, List.mem_singleton]
            constructor
            · rintro (h | h)
              · exact h
              · omega
            · exact .inl
          rw [e4]
          exact ⟨_, _, rfl⟩
      · rintro ρ ⟨⟩ ⟨y5, y6, rfl⟩
        intro _
        rw [nats_len, List.take_length]
        refine ⟨_, _, _, congrArg (fun u => eU many rows u _ _ _) ?_⟩
        funext p
        rw [hmk, hb, Bool.true_and]
    · repeat (first | walk_at "s")
      intro _
      refine ⟨_, _, _, congrArg (fun u => eU many rows u _ _ _) ?_⟩
      funext p
      rw [hmk, hb, Bool.false_and, Bool.or_false]
  · rintro ρ ⟨⟩ hP
    rw [hln] at hP
    obtain ⟨x4, x5, x6, rfl⟩ := hP (Nat.le_refl _)
    repeat (first | walk_at "s")
    refine lc_filt (fun d => match d with | .int i => used many rows i.toNat | _ => false) ?_
    repeat (first | with_reducible (first | refine op_ok e0 ?_) | walk_at "s")
    have hr : (natsD (List.range (rows.length : Int).toNat)).filter (fun d => match d with | .int i => used many rows i.toNat | _ => false) = natsD (kept many rows) := by
      rw [Int.toNat_natCast]
      unfold natsD kept
      rw [List.filter_map]
      rfl
    rw [hr]
    refine ⟨rng_ok (by omega), fits (by rw [nats_len, List.length_range, Int.toNat_natCast]; omega), fun d hd => ?_, ?_⟩
    · obtain ⟨i, hi, rfl⟩ := List.mem_map.mp hd
      rw [Int.toNat_natCast] at hi
      have g1 : ixD (.list ((List.range rows.length).map fun i => PyData.bool (mk many rows rows.length i))) (.int (i : Int)) = some (.bool (mk many rows rows.length i)) := atI_nat (by rw [List.getElem?_map, List.getElem?_range (List.mem_range.mp hi)]; rfl)
      refine ex_env rfl ?_
      repeat (first | with_reducible (first | refine op_ok g1 ?_) | walk_at "s")
      refine ⟨⟨rfl, rfl⟩, fun _ => ?_⟩
      repeat (first | walk_at "s")
      exact ⟨rfl, rfl⟩
    · repeat (first | walk_at "s")
      rfl
theorem mulD_at {xs : List PyData} {i : Int} (h : -(2 ^ 63) ≤ i ∧ i < 2 ^ 63 ∧ xs.length * i.toNat ≤ sizeLine) : mulD (.list xs) (.int i) = some (.list (List.replicate i.toNat xs).flatten) := if_pos h
theorem mulD_rep {xs : List PyData} {k : Nat} (h : xs.length * k ≤ 1000000) (hk : k ≤ 1000000) : mulD (.list xs) (.int (k : Int)) = some (.list (List.replicate k xs).flatten) := by
  rw [mulD_at ⟨by omega, by omega, by rw [Int.toNat_natCast]; exact Nat.le_trans h (by decide)⟩, Int.toNat_natCast]
def numF (many : Nat) (rows : List Ins) (i a : Nat) : PyData := if a < many then .int (a : Int) else if ((kept many rows).take i).contains (a - many) then .int (nu many rows a : Nat) else .none
def numL (many : Nat) (rows : List Ins) (i : Nat) : List PyData := (List.range (many + rows.length)).map (numF many rows i)
theorem numL_len (many : Nat) (rows : List Ins) (i : Nat) : (numL many rows i).length = many + rows.length := by
  unfold numL
  rw [List.length_map, List.length_range]
theorem numL_at {many : Nat} {rows : List Ins} {i a : Nat} (h : a < many + rows.length) : (numL many rows i)[a]? = some (numF many rows i a) := by
  unfold numL
  rw [List.getElem?_map, List.getElem?_range h]
  rfl
theorem numL_zero (many : Nat) (rows : List Ins) : natsD (List.range many) ++ List.replicate rows.length PyData.none = numL many rows 0 := by
  apply List.ext_getElem?
  intro a
  by_cases h : a < many + rows.length
  · rw [numL_at h]
    unfold numF
    by_cases q : a < many
    · rw [if_pos q, List.getElem?_append_left (by rw [nats_len, List.length_range]; exact q), natsD, List.getElem?_map, List.getElem?_range q]
      rfl
    · rw [if_neg q, List.getElem?_append_right (by rw [nats_len, List.length_range]; omega), nats_len, List.length_range, List.getElem?_replicate, if_pos (by omega), List.take_zero]
      rfl
  · rw [List.getElem?_eq_none (by rw [List.length_append, nats_len, List.length_range, List.length_replicate]; omega), List.getElem?_eq_none (by rw [numL_len]; omega)]
theorem numL_set {many : Nat} {rows : List Ins} {i k : Nat} (hk : (kept many rows)[i]? = some k) : (numL many rows i).set (many + k) (.int ((many + i : Nat) : Int)) = numL many rows (i + 1) := by
  obtain ⟨k1, k2, k3⟩ := filt_at _ hk
  apply List.ext_getElem?
  intro a
  by_cases h : a < many + rows.length
  · rw [numL_at h]
    by_cases e : many + k = a
    · subst e
      rw [List.getElem?_set_self (by rw [numL_len]; omega)]
      unfold numF
      rw [if_neg (by omega), Nat.add_sub_cancel_left, if_pos (List.contains_iff_mem.mpr (by rw [take_at hk]; exact List.mem_append_right _ List.mem_cons_self))]
      unfold nu
      rw [if_neg (by omega), Nat.add_sub_cancel_left, k3]
    · rw [List.getElem?_set_ne e, numL_at h]
      unfold numF
      by_cases q : a < many
      · rw [if_pos q, if_pos q]
      · rw [if_neg q, if_neg q]
        have : ((kept many rows).take (i + 1)).contains (a - many) = ((kept many rows).take i).contains (a - many) := by
          rw [take_at hk, Bool.eq_iff_iff, List.contains_iff_mem, List.contains_iff_mem, List.mem_append, List.mem_singleton]
          constructor
          · rintro (h | h)
            · exact h
            · omega
          · exact .inl
        rw [this]
  · rw [List.getElem?_eq_none (by rw [List.length_set, numL_len]; omega), List.getElem?_eq_none (by rw [numL_len]; omega)]
theorem numL_ops {many : Nat} {rows : List Ins} (ok : OkP many rows) {i k : Nat} (hk : (kept many rows)[i]? = some k) : ∀ a ∈ ops (rows.getD k .zero), (numL many rows (i + 1))[a]? = some (.int (nu many rows a : Nat)) := fun a ha => by
  obtain ⟨k1, k2, k3⟩ := filt_at _ hk
  have hak := row_ops ok k1 a ha
  rw [numL_at (by omega)]
  unfold numF
  by_cases q : a < many
  · rw [if_pos q]
    unfold nu
    rw [if_pos q]
  · have hu : used many rows (a - many) = true := used_ops ok k1 k2 (by rw [show many + (a - many) = a by omega]; exact ha)
    have hc : cnt (used many rows) (a - many) < i := by
      rw [← k3]
      exact cnt_lt (by omega) hu
    have hg : (kept many rows)[cnt (used many rows) (a - many)]? = some (a - many) := filt_of _ _ (by omega) hu
    rw [if_neg q, if_pos]
    refine List.contains_iff_mem.mpr (List.mem_of_getElem? (i := cnt (used many rows) (a - many)) ?_)
    rw [List.getElem?_take_of_lt (by omega), hg]
theorem neat_walk {many : Nat} {rows : List Ins} (ok : OkP many rows) (hm : many ≤ 1000) : f_neat [progD many rows] = some (progD many (neatR many rows)) := by
  refine fun_ok ?_
  refine s_env (ρ' := [some (.bor (progD many rows)), none, none, none, none, none]) rfl ?_
  unfold m_neat
  have few := ok.few
  have e0 : lenD [.tuple (rows.map insD)] = some (.int ((rows.length : Nat) : Int)) := by
    show some (PyData.int (((rows.map insD).length : Nat) : Int)) = _
    rw [List.length_map]
  have eu := used_ok ok hm
  have e1 : mulD (.list [.none]) (.int ((rows.length : Nat) : Int)) = some (.list (List.replicate rows.length .none)) := by
    rw [mulD_rep (by rw [List.length_singleton]; omega) (by omega)]
    have : ∀ n : Nat, (List.replicate n [PyData.none]).flatten = List.replicate n PyData.none := fun n => by
      induction n with
      | zero => rfl
      | succ n ih => rw [List.replicate_succ, List.flatten_cons, ih, List.replicate_succ]; rfl
    rw [this]
  repeat (first | with_reducible (first | refine op_ok e0 ?_ | refine op_ok e1 ?_ | refine op_ok eu ?_) | walk_at "s")
  refine ⟨many, rfl, by omega, ?_⟩
  repeat (first | with_reducible (first | refine op_ok e0 ?_ | refine op_ok e1 ?_ | refine op_ok eu ?_) | walk_at "s")
  refine ⟨_, _, rfl, rfl, by rw [nats_len, List.length_range, List.length_replicate]; omega, ?_⟩
  rw [numL_zero]
  repeat (first | with_reducible (first | refine op_ok e0 ?_ | refine op_ok e1 ?_ | refine op_ok eu ?_) | walk_at "s")
  refine s_for (fun i ρ _ => ∃ x5, ρ = [some (.bor (progD many rows)), some (.fro (.int (many : Int))), some (.fro (.tuple (rows.map insD))), some (.own (.list (numL many rows i))), some (.own (.list (((neatR many rows).take i).map insD))), x5]) ?_
  repeat (first | with_reducible (first | refine op_ok e0 ?_ | refine op_ok e1 ?_ | refine op_ok eu ?_) | walk_at "s")
  refine ⟨⟨_, rfl⟩, ?_, ?_⟩
  · rintro i d ρ ⟨⟩ hj ⟨x5, rfl⟩
    obtain ⟨k, hk, rfl⟩ := natsD_at hj
    obtain ⟨k1, k2, k3⟩ := filt_at _ hk
    have hil := lt_at hk
    have hle : (kept many rows).length ≤ rows.length := kept_le
    have hI : rows[k]? = some (rows.getD k .zero) := by rw [List.getD_eq_getElem?_getD, List.getElem?_eq_getElem k1]; rfl
    have g2 : ixD (.tuple (rows.map insD)) (.int (k : Int)) = some (insD (rows.getD k .zero)) := atI_nat (by rw [List.getElem?_map, hI]; rfl)
    have g3 := addN many k
    have hll : (((neatR many rows).take i).map insD).length = i := by
      rw [List.length_map, List.length_take, neat_len]
      omega
    have g4 : lenD [.list (((neatR many rows).take i).map insD)] = some (.int (i : Int)) := by
      show some (PyData.int (((((neatR many rows).take i).map insD).length : Nat) : Int)) = _
      rw [hll]
    have g5 := addN many i
    have er := renumbered (I := rows.getD k .zero) (ds := numL many rows (i + 1)) (f := nu many rows) (by rw [numL_len]; omega) (numL_ops ok hk)
    refine ex_env rfl ?_
    repeat (first | with_reducible (first | refine op_ok g2 ?_ | refine op_ok g3 ?_ | refine op_ok g4 ?_ | refine op_ok g5 ?_) | walk_at "s")
    refine ⟨_, _, many + k, rfl, rfl, ixN_nat (by rw [numL_len]; omega) (by rw [numL_len]; omega), ?_⟩
    rw [numL_set hk]
    repeat (first | with_reducible (first | refine op_ok g2 ?_ | refine op_ok er ?_) | walk_at "s")
    refine ⟨fits' (by rw [hll]; omega), ?_⟩
    repeat (first | walk_at "s")
    rw [take_at (neat_at hk), List.map_append]
    exact ⟨_, rfl⟩
  · rintro ρ ⟨⟩ ⟨x5, rfl⟩
    rw [nats_len, ← neat_len, List.take_length]
    repeat (first | walk_at "s")
    rfl
end Mi.K18
/-! k18: the law's own look. -/
namespace Mi.K18
open PySem L2 RS TI
local macro_rules | `(tactic| walk_at "op") => `(tactic| with_reducible first
  | exact o_add | exact o_addI | exact o_sub | exact o_lt | exact o_le | exact o_gt | exact o_ge | exact o_eqI | exact o_neI | exact o_eqS | exact o_neS | exact o_neg | exact o_inv | exact o_and | exact o_or | exact o_xor
  | exact o_int | exact o_intB | exact o_abs | exact o_tupL | exact o_tupT | exact o_lenL | exact o_lenT | exact o_isN | exact o_isNotN)
local macro_rules | `(tactic| walk_at "ix") => `(tactic| ((with_reducible apply o_ixA); (first | apply o_ixL | apply o_ixT | apply o_dixS); focus rfl))
local macro_rules | `(tactic| walk_at "op2") => `(tactic| first
  | ((with_reducible apply o_inA); focus rfl)
  | ((with_reducible apply o_notInA); focus rfl)
  | (with_reducible (first | refine o_addL ?_ | refine o_addT ?_); simp only [List.length_cons, List.length_nil]; decide)
  | ((with_reducible apply o_modA); focus (exact mod_ok (by decide)))
  | ((with_reducible apply o_fdivA); focus (exact o_fdiv (by decide) (by decide))))
local macro_rules | `(tactic| walk_at "call") => `(tactic| fail)
local macro_rules | `(tactic| walk_at "s") => `(tactic| first
  | ((with_reducible apply s_set_env); focus (dsimp only [List.set] <;> rfl))
  | ((with_reducible apply f_callPK); (focus rfl); (focus rfl))
  | with_reducible first
    | refine s_seq ?_ | refine d_f (f_bin ?_) | refine d_f (f_c ?_) | refine s_set ?_ | refine v_rv ?_ | refine s_if ?_ | refine b_test ?_ | refine f_bin ?_ | refine f_c ?_ | refine s_ret ?_ | refine s_skip ?_
    | refine r_cons ?_ | refine r_nil ?_ | refine a_consT ?_ | refine a_nil ?_ | refine k_cons ?_ | refine k_nil ?_ | refine a_consF ?_
    | refine f_call ?_ | refine f_callP ?_ | refine f_keep ?_ | refine f_tup ?_ | refine f_if ?_ | refine f_andV ?_ | refine f_orV ?_ | refine f_notV ?_ | refine f_isi ?_ | refine f_sl ?_ | refine f_un ?_ | refine f_chain ?_
    | refine b_and ?_ | refine b_or ?_ | refine b_not ?_ | refine b_yes ?_
    | refine s_asg ?_ | refine s_app ?_ | refine s_par ?_ | refine s_pars ?_ | refine s_drop ?_ | refine s_retN ?_ | refine s_break ?_ | refine s_cont ?_ | refine s_end ?_ | refine s_setP ?_ | refine s_dropP ?_ | refine s_appP ?_ | refine p_at ?_ | refine p_end ?_ | refine s_par3 ?_ | refine ex_three ?_ | refine i_zip ?_ | refine zz_L ?_ | refine zz_T ?_ | refine l_revL ?_ | refine ex_lst ?_
    | refine l_lst ?_ | refine l_dict ?_ | refine l_listL ?_ | refine o_no ?_ | refine o_part ?_ | refine i_enum ?_ | refine i_range1 ?_ | refine v_new ?_ | refine vs_nil ?_ | refine vs_cons ?_
  | ((with_reducible apply d_v); focus rfl)
  | ((with_reducible apply f_v); focus rfl)
  | ((with_reducible apply s_aug); focus rfl)
  | ((with_reducible apply f_callT); focus rfl)
  | ((with_reducible apply w_b); (focus rfl))
  | ((with_reducible apply i_itemsB); (focus rfl); (focus rfl))
  | with_reducible first | refine d_f ?_ | refine w_f ?_ | refine i_items ?_
  | ((with_reducible refine if_yes ?_ ?_); focus rfl)
  | ((with_reducible refine if_no ?_ ?_); focus rfl)
  | ((with_reducible apply op_ok); focus (first | walk_at "op" | walk_at "ix" | walk_at "op2"))
  | ((with_reducible refine len_ok ?_ ?_); focus (simp only [List.length_cons, List.length_nil]; decide))
  | ((with_reducible refine pk_ok ?_ ?_); focus rfl)
  | ((with_reducible refine lt_ok ?_ ?_); focus (simp only [List.length_append, List.length_cons, List.length_nil]; decide))
  | ((with_reducible refine dict_ok ?_ ?_); focus (exact ⟨rfl, by decide, by decide⟩))
  | ((with_reducible refine par_ok ?_ ?_); focus (refine ⟨?_, rfl⟩; simp only [List.length_cons, List.length_nil]; decide))
  | walk_at "call"
  | with_reducible first | refine ex_bool ?_ | refine ex_int ?_ | refine ex_itL ?_ | refine ex_itT ?_ | refine ex_rng ?_ | refine ex_two ?_ | refine ex_lstL ?_ | refine ex_lstT ?_
  | ((with_reducible apply ex_env); focus rfl)
  | ((with_reducible apply ex_own); focus rfl))
local macro_rules | `(tactic| walk_at "call") => `(tactic| with_reducible first | refine i_range3 ?_)
theorem flat_nats : ∀ bs : List Nat, (natsD bs).all flatP = true
  | [] => rfl
  | b :: r => by
    show (true && (natsD r).all flatP) = true
    rw [flat_nats r]
    rfl
theorem any_nats (q : Nat) : ∀ bs : List Nat, (natsD bs).any (fun d => PyData.eqv d (.int (q : Int))) = bs.contains q
  | [] => rfl
  | b :: r => by
    show ((((b : Int) == (q : Int))) || (natsD r).any fun d => PyData.eqv d (.int (q : Int))) = _
    rw [any_nats q r, List.contains_cons]
    congr 1
    rw [Bool.eq_iff_iff, beq_iff_eq, beq_iff_eq]
    omega
theorem in_natsL (q : Nat) (bs : List Nat) : inD (.int (q : Int)) (.list (natsD bs)) = some (.bool (bs.contains q)) := by
  refine (if_pos (by rw [flat_nats]; rfl)).trans ?_
  rw [any_nats]
theorem notIn_natsL (q : Nat) (bs : List Nat) : notInD (.int (q : Int)) (.list (natsD bs)) = some (.bool (!bs.contains q)) := by
  refine (if_pos (by rw [flat_nats]; rfl)).trans ?_
  rw [any_nats]
theorem mk_lt {many : Nat} {rows : List Ins} (ok : OkP many rows) {j : Nat} : ∀ d, mk many rows d j = true → j < rows.length
  | 0, h => by
    have hpos : 0 < rows.length := List.length_pos_iff.mpr ok.pos
    have h : (j == rows.length - 1) = true := h
    have := eq_of_beq h
    omega
  | d + 1, h => by
    have h : (mk many rows d j || (mk many rows d (rows.length - 1 - d) && (ops (rows.getD (rows.length - 1 - d) .zero)).contains (many + j))) = true := h
    rcases (Bool.or_eq_true _ _).mp h with h | h
    · exact mk_lt ok d h
    · obtain ⟨_, h2⟩ := (Bool.and_eq_true _ _).mp h
      have hk : rows.length - 1 - d < rows.length := by
        have hpos : 0 < rows.length := List.length_pos_iff.mpr ok.pos
        omega
      have := row_ops ok hk _ (List.contains_iff_mem.mp h2)
      omega
theorem nat_perm {as bs : List Nat} (ha : as.Nodup) (hb : bs.Nodup) (h : ∀ x, x ∈ as ↔ x ∈ bs) : as.Perm bs := (List.perm_ext_iff_of_nodup ha hb).mpr h
theorem kept_nodup (many : Nat) (rows : List Ins) : (kept many rows).Nodup := List.nodup_range.filter _
theorem word_ne (I : Ins) : neD (.str (wordS I)) (.str "mask") = some (.bool (!isMask I)) := by
  cases I with
  | un o a => cases o <;> rfl
  | bin o a b => cases o <;> rfl
  | _ => rfl
theorem intsOf_nats (xs : List Nat) : intsOf (natsD xs) = some (xs.map fun (n : Nat) => (n : Int)) := Mi.intsOf_nats xs
theorem sorted_nats {fs ks : List Nat} (hp : ks.Perm fs) (hs : ks.Pairwise (· ≤ ·)) (hl : fs.length < 64) : sortedD [.list (natsD fs)] = some (.list (natsD ks)) := by
  show ((intsOf (natsD fs)).bind fun ns => if ns.length < 64 then some (PyData.list ((sortI ns).map .int)) else none) = _
  rw [intsOf_nats]
  show (if (fs.map fun (n : Nat) => (n : Int)).length < 64 then some (PyData.list ((sortI (fs.map fun (n : Nat) => (n : Int))).map .int)) else none) = _
  rw [if_pos (by rw [List.length_map]; exact hl)]
  have e : (ks.map fun (n : Nat) => (n : Int)) = sortI (fs.map fun (n : Nat) => (n : Int)) := sort_eq (hp.map _) (by
    rw [List.pairwise_map]
    exact hs.imp fun {a b} h => by omega)
  rw [← e]
  unfold natsD
  rw [List.map_map]
  rfl
abbrev eF (many : Nat) (rows : List Ins) (fs : List Nat) (x4 x5 : Option Val) : Env := [some (.bor (progD many rows)), some (.fro (.int (many : Int))), some (.fro (.tuple (rows.map insD))), some (.own (.list (natsD fs))), x4, x5]
theorem used_law {many : Nat} {rows : List Ins} (ok : OkP many rows) (h64 : (kept many rows).length < 64) : f__law_used [progD many rows] = some (.list (natsD (kept many rows))) := by
  refine fun_ok ?_
  refine s_env (ρ' := [some (.bor (progD many rows)), none, none, none, none, none]) rfl ?_
  unfold m__law_used
  have hpos : 0 < rows.length := List.length_pos_iff.mpr ok.pos
  have few := ok.few
  have e0 : lenD [.tuple (rows.map insD)] = some (.int ((rows.length : Nat) : Int)) := by
    show some (PyData.int (((rows.map insD).length : Nat) : Int)) = _
    rw [List.length_map]
  have e1 : subD (.int ((rows.length : Nat) : Int)) (.int 1) = some (.int ((rows.length - 1 : Nat) : Int)) := subN (b := 1) hpos
  repeat (first | with_reducible (first | refine op_ok e0 ?_ | refine op_ok e1 ?_) | walk_at "s")
  refine s_for (fun d ρ _ => d ≤ rows.length → ∃ (fs : List Nat) (x4 x5 : Option Val), ρ = eF many rows fs x4 x5 ∧ fs.Nodup ∧ (∀ j, j ∈ fs ↔ mk many rows d j = true)) ?_
  repeat (first | with_reducible (first | refine op_ok e0 ?_ | refine op_ok e1 ?_) | walk_at "s")
  have hrg : (((rows.length - 1 : Nat) : Int) - -1).toNat = rows.length := by omega
  have hdl : (downL ((rows.length - 1 : Nat) : Int) rows.length).length = rows.length := by unfold downL; rw [List.length_map, List.length_range]
  refine ⟨_, _, rfl, ⟨by omega, by omega, by decide, by decide⟩, ?_⟩
  rw [hrg]
  refine ⟨fun _ => ⟨[rows.length - 1], _, _, rfl, by simp, fun j => ?_⟩, ?_, ?_⟩
  · rw [List.mem_singleton]
    show j = rows.length - 1 ↔ (j == rows.length - 1) = true
    rw [beq_iff_eq]
  · rintro d x ρ ⟨⟩ hj hP
    have hjl := lt_at hj
    rw [hdl] at hjl
    obtain ⟨fs, x4, x5, rfl, hn, hf⟩ := hP (by omega)
    obtain ⟨k, hk, rfl⟩ : ∃ k : Nat, rows.length - 1 - d = k ∧ x = .int (k : Int) := by
      unfold downL at hj
      rw [List.getElem?_map, List.getElem?_range hjl] at hj
      refine ⟨rows.length - 1 - d, rfl, ?_⟩
      cases hj
      show PyData.int (((rows.length - 1 : Nat) : Int) + (d : Int) * -1) = PyData.int ((rows.length - 1 - d : Nat) : Int)
      rw [show ((rows.length - 1 : Nat) : Int) + (d : Int) * -1 = ((rows.length - 1 - d : Nat) : Int) by omega]
    have hkl : k < rows.length := by omega
    have hI : rows[k]? = some (rows.getD k .zero) := by rw [List.getD_eq_getElem?_getD, List.getElem?_eq_getElem hkl]; rfl
    have g2 : ixD (.tuple (rows.map insD)) (.int (k : Int)) = some (insD (rows.getD k .zero)) := atI_nat (by rw [List.getElem?_map, hI]; rfl)
    have g0 := in_natsL k fs
    have h0 := head_at (rows.getD k .zero)
    have hw := word_ne (rows.getD k .zero)
    have hop := row_ops ok hkl
    have hmk : ∀ p, mk many rows (d + 1) p = (mk many rows d p || (mk many rows d k && (ops (rows.getD k .zero)).contains (many + p))) := fun p => by
      show (mk many rows d p || (mk many rows d (rows.length - 1 - d) && (ops (rows.getD (rows.length - 1 - d) .zero)).contains (many + p))) = _
      rw [hk]
    have hck : fs.contains k = mk many rows d k := by rw [Bool.eq_iff_iff, List.contains_iff_mem, hf]
    rw [hck] at g0
    generalize rows.getD k .zero = I at hI g2 h0 hw hop hmk
    refine ex_env rfl ?_
    repeat (first | with_reducible (first | refine op_ok g0 ?_) | walk_at "s")
    refine if_both (fun hb => ?_) (fun hb => ?_)
    · repeat (first | with_reducible (first | refine op_ok g2 ?_ | refine op_ok h0 ?_ | refine op_ok hw ?_) | walk_at "s")
      refine if_both (fun hm => ?_) (fun hm => ?_)
      · have hm : isMask I = false := by simpa using hm
        have hs : sliceD (insD I) (some 1) none = some (.tuple (natsD (ops I))) := by
          rw [insD_form hm]
          exact sl_from _ 1
        refine s_for (fun i ρ _ => ∃ (fs' : List Nat) (x5 : Option Val), ρ = eF many rows fs' (some (.fro (.int (k : Int)))) x5 ∧ fs'.Nodup ∧ (∀ j, j ∈ fs' ↔ mk many rows d j = true ∨ many + j ∈ (ops I).take i)) ?_
        repeat (first | with_reducible (first | refine op_ok g2 ?_ | refine op_ok hs ?_) | walk_at "s")
        refine ⟨⟨fs, _, rfl, hn, fun j => by rw [hf, List.take_zero]; simp⟩, ?_, ?_⟩
        · rintro i z ρ ⟨⟩ hi ⟨fs', y5, rfl, hn', hf'⟩
          obtain ⟨a, ha, rfl⟩ := natsD_at hi
          have hak := hop a (List.mem_of_getElem? ha)
          have hlt : ∀ x ∈ fs', x < rows.length := fun x m => by
            rcases (hf' x).mp m with h | h
            · exact mk_lt ok d h
            · have := hop _ (List.mem_of_mem_take h)
              omega
          have hlen : fs'.length ≤ rows.length := by
            have := hn'.length_le_of_subset (l₂ := List.range rows.length) fun x m => List.mem_range.mpr (hlt x m)
            rw [List.length_range] at this
            exact this
          refine ex_env rfl ?_
          repeat (first | walk_at "s")
          refine if_both (fun hge => ?_) (fun hge => ?_)
          · have hge : (many : Int) ≤ (a : Int) := of_decide_eq_true hge
            have e3 : subD (.int (a : Int)) (.int (many : Int)) = some (.int ((a - many : Nat) : Int)) := subN (by omega)
            have e4 := notIn_natsL (a - many) fs'
            repeat (first | with_reducible (first | refine op_ok e3 ?_ | refine op_ok e4 ?_) | walk_at "s")
            refine if_both (fun hc => ?_) (fun hc => ?_)
            · have hc : a - many ∉ fs' := by
                intro m
                rw [List.contains_iff_mem.mpr m] at hc
                cases hc
              repeat (first | with_reducible (first | refine op_ok e3 ?_) | walk_at "s")
              refine ⟨fits' (by rw [nats_len]; omega), fs' ++ [a - many], _, by rw [natsD_snoc]; rfl, ?_, fun j => ?_⟩
              · rw [List.nodup_append]
                refine ⟨hn', by simp, fun x mx y my => ?_⟩
                rw [List.mem_singleton.mp my]
                intro z
                exact hc (z ▸ mx)
              · rw [List.mem_append, List.mem_singleton, take_at ha, List.mem_append, List.mem_singleton, hf']
                constructor
                · rintro ((h | h) | h)
                  · exact .inl h
                  · exact .inr (.inl h)
                  · exact .inr (.inr (by omega))
                · rintro (h | h | h)
                  · exact .inl (.inl h)
                  · exact .inl (.inr h)
                  · exact .inr (by omega)
            · have hc : a - many ∈ fs' := List.contains_iff_mem.mp (by simpa using hc)
              repeat (first | walk_at "s")
              refine ⟨fs', _, rfl, hn', fun j => ?_⟩
              rw [take_at ha, List.mem_append, List.mem_singleton, hf']
              constructor
              · rintro (h | h)
                · exact .inl h
                · exact .inr (.inl h)
              · rintro (h | h | h)
                · exact .inl h
                · exact .inr h
                · rw [← hf', show j = a - many by omega]
                  exact hc
          · have hge : ¬ (many : Int) ≤ (a : Int) := of_decide_eq_false hge
            repeat (first | walk_at "s")
            refine ⟨fs', _, rfl, hn', fun j => ?_⟩
            rw [take_at ha, List.mem_append, List.mem_singleton, hf']
            constructor
            · rintro (h | h)
              · exact .inl h
              · exact .inr (.inl h)
            · rintro (h | h | h)
              · exact .inl h
              · exact .inr h
              · omega
        · rintro ρ ⟨⟩ ⟨fs', y5, rfl, hn', hf'⟩
          intro _
          rw [nats_len, List.take_length] at hf'
          refine ⟨fs', _, _, rfl, hn', fun j => ?_⟩
          rw [hf', hmk, hb, Bool.true_and, Bool.or_eq_true, List.contains_iff_mem]
      · have hm : isMask I = true := by simpa using hm
        have ho : ops I = [] := by
          cases I with
          | mask bits => rfl
          | _ => cases hm
        repeat (first | walk_at "s")
        intro _
        refine ⟨fs, _, _, rfl, hn, fun j => ?_⟩
        rw [hf, hmk, ho]
        simp
    · repeat (first | walk_at "s")
      intro _
      refine ⟨fs, _, _, rfl, hn, fun j => ?_⟩
      rw [hf, hmk, hb, Bool.false_and, Bool.or_false]
  · rintro ρ ⟨⟩ hP
    rw [hdl] at hP
    obtain ⟨fs, x4, x5, rfl, hn, hf⟩ := hP (Nat.le_refl _)
    have hp : (kept many rows).Perm fs := nat_perm (kept_nodup many rows) hn fun x => by
      rw [hf]
      unfold kept
      rw [List.mem_filter, List.mem_range]
      constructor
      · exact fun h => h.2
      · exact fun h => ⟨mk_lt ok _ h, h⟩
    have hs : (kept many rows).Pairwise (· ≤ ·) := (List.pairwise_lt_range.filter _).imp fun {a b} h => Nat.le_of_lt h
    have es := sorted_nats hp hs (by rw [← hp.length_eq]; exact h64)
    repeat (first | with_reducible (first | refine op_ok es ?_) | walk_at "s")
    rfl
theorem f_dget2 {T : Type} {ρ : Env} {t : T} {Q : PyData → T → Prop} {fd fk fx : ME T} (h : Ed fd ρ t fun d t1 => Ef fk ρ t1 fun k t2 => Ef fx ρ t2 fun x t3 => ∃ es ky, d = .dict es ∧ keyD k = some ky ∧ Q ((dgetK es ky).getD x) t3) : Ef (mDGet2 fd fk fx) ρ t Q := by
  obtain ⟨r1, t1, d, e1, ed, k, t2, e2, x, t3, e3, es, ky, rfl, hk, q⟩ := h
  refine ⟨_, t3, ?_, q⟩
  unfold mDGet2
  rw [e1]
  show (fk ρ t1 >>= _) = _
  rw [e2]
  show (fx ρ t2 >>= _) = _
  rw [e3]
  show (rd ρ r1 >>= _) = _
  rw [ed]
  show (match keyD k with | some k => some (Rv.fro ((dgetK es k).getD x), t3) | none => none) = _
  rw [hk]
theorem prsOf_map : ∀ ps : List (Int × Int), prsOf (ps.map pairD') = some ps
  | [] => rfl
  | p :: r => by
    show (prsOf (r.map pairD')).map _ = _
    rw [prsOf_map r]
    rfl
def prs (many c : Nat) (ks : List Nat) : List (Int × Int) := (ks.zipIdx c).map fun p => (((many + p.1 : Nat) : Int), ((many + p.2 : Nat) : Int))
theorem prs_cons (many c k : Nat) (ks : List Nat) : prs many c (k :: ks) = (((many + k : Nat) : Int), ((many + c : Nat) : Int)) :: prs many (c + 1) ks := by
  unfold prs
  rw [List.zipIdx_cons, List.map_cons]
theorem prs_fst (many : Nat) : ∀ (ks : List Nat) (c : Nat), (prs many c ks).map (·.1) = ks.map fun k => ((many + k : Nat) : Int)
  | [], _ => rfl
  | k :: r, c => by rw [prs_cons, List.map_cons, List.map_cons, prs_fst many r (c + 1)]
theorem dget_step (p : Int × Int) (r : List (Int × Int)) (z : Int) : dgetK ((p :: r).map entP) (.inl z) = if p.1 = z then some (.int p.2) else dgetK (r.map entP) (.inl z) := by
  rw [List.map_cons]
  unfold entP
  rw [dgetK]
  show (if (some (Sum.inl p.1) : Option Key) = some (Sum.inl z) then _ else _) = _
  by_cases h : p.1 = z
  · rw [if_pos (by rw [h]), if_pos h]
  · rw [if_neg (by simpa using h), if_neg h]
theorem dget_none (many : Nat) {z : Int} (hz : z < many) : ∀ (ks : List Nat) (c : Nat), dgetK ((prs many c ks).map entP) (.inl z) = none
  | [], _ => rfl
  | k :: r, c => by rw [prs_cons, dget_step, if_neg (by show ¬ ((many + k : Nat) : Int) = z; omega), dget_none many hz r (c + 1)]
theorem dget_some (many : Nat) {j : Nat} : ∀ (ks : List Nat) (c i : Nat), ks.Nodup → ks[i]? = some j → dgetK ((prs many c ks).map entP) (.inl ((many + j : Nat) : Int)) = some (.int ((many + (c + i) : Nat) : Int))
  | k :: r, c, 0, hn, h => by
    cases h
    rw [prs_cons, dget_step, if_pos rfl]
    rfl
  | k :: r, c, i + 1, hn, h => by
    rw [List.nodup_cons] at hn
    have hm : j ∈ r := List.mem_of_getElem? (by simpa using h)
    rw [prs_cons, dget_step, if_neg (by
      show ¬ ((many + k : Nat) : Int) = ((many + j : Nat) : Int)
      intro z
      have : k = j := by omega
      exact hn.1 (this ▸ hm)), dget_some many r (c + 1) i hn.2 (by simpa using h)]
    rw [show c + 1 + i = c + (i + 1) by omega]
def pairH (many : Nat) : PyData → PyData
  | .tuple [.int i, .int k] => .tuple [.int ((many : Int) + k), .int ((many : Int) + i)]
  | d => d
theorem pair_map (many : Nat) : ∀ (ks : List Nat) (c : Nat), ((natsD ks).zipIdx c).map (fun q => pairH many (.tuple [.int (q.2 : Int), q.1])) = (prs many c ks).map pairD'
  | [], _ => rfl
  | k :: r, c => by
    show (((PyData.int (k : Int)) :: natsD r).zipIdx c).map _ = _
    rw [List.zipIdx_cons, List.map_cons, pair_map many r (c + 1), prs_cons, List.map_cons]
    rfl
abbrev eN (many : Nat) (rows : List Ins) (ks : List Nat) (found : List PyData) (x6 x7 x8 x9 x10 : Option Val) : Env := [some (.bor (progD many rows)), some (.fro (.int (many : Int))), some (.fro (.tuple (rows.map insD))), some (.fro (.list (natsD ks))), some (.fro (.dict ((prs many 0 ks).map entP))), some (.own (.list found)), x6, x7, x8, x9, x10]
theorem neat_law {many : Nat} {rows : List Ins} (ok : OkP many rows) (h64 : (kept many rows).length < 64) : f__law_neat [progD many rows] = some (progD many (neatR many rows)) := by
  refine fun_ok ?_
  refine s_env (ρ' := [some (.bor (progD many rows)), none, none, none, none, none, none, none, none, none, none]) rfl ?_
  unfold m__law_neat
  have eu := used_law ok h64
  have kn := kept_nodup many rows
  repeat (first | with_reducible (first | refine op_ok eu ?_) | walk_at "s")
  refine l_lc_map (pairH many) ?_
  repeat (first | walk_at "s")
  have hw : (withIx (natsD (kept many rows))).map (pairH many) = (prs many 0 (kept many rows)).map pairD' := by
    unfold withIx
    rw [List.map_map, ← pair_map]
    rfl
  rw [hw]
  refine ⟨fits (by rw [withIx_len, nats_len]; omega), fun d hd => ?_, ?_⟩
  · obtain ⟨i, hi⟩ := List.getElem?_of_mem hd
    obtain ⟨y, hy, rfl⟩ := withIx_at hi
    obtain ⟨k, hk, rfl⟩ := natsD_at hy
    refine ex_env rfl ?_
    repeat (first | walk_at "s")
    exact ⟨rfl, rfl⟩
  have ed : dictPr [.list ((prs many 0 (kept many rows)).map pairD')] = some (.dict ((prs many 0 (kept many rows)).map entP)) := by
    show (match prsOf ((prs many 0 (kept many rows)).map pairD') with | some ps => if (ps.map (fun p : Int × Int => p.1)).Nodup then some (PyData.dict (ps.map entP)) else none | none => none) = _
    rw [prsOf_map]
    refine if_pos ?_
    rw [prs_fst]
    exact List.Pairwise.map _ (fun a b (h : a ≠ b) (z : ((many + a : Nat) : Int) = ((many + b : Nat) : Int)) => h (by omega)) kn
  repeat (first | with_reducible (first | refine op_ok ed ?_) | walk_at "s")
  refine s_for (fun i ρ _ => ∃ x6 x7 x8 x9 x10, ρ = eN many rows (kept many rows) (((neatR many rows).take i).map insD) x6 x7 x8 x9 x10) ?_
  repeat (first | walk_at "s")
  refine ⟨⟨_, _, _, _, _, rfl⟩, ?_, ?_⟩
  · rintro i d ρ ⟨⟩ hj ⟨x6, x7, x8, x9, x10, rfl⟩
    obtain ⟨k, hk, rfl⟩ := natsD_at hj
    obtain ⟨k1, k2, k3⟩ := filt_at _ hk
    have hil := lt_at hk
    have hI : rows[k]? = some (rows.getD k .zero) := by rw [List.getD_eq_getElem?_getD, List.getElem?_eq_getElem k1]; rfl
    have g2 : ixD (.tuple (rows.map insD)) (.int (k : Int)) = some (insD (rows.getD k .zero)) := atI_nat (by rw [List.getElem?_map, hI]; rfl)
    have h0 := head_at (rows.getD k .zero)
    have hw := word_mask (rows.getD k .zero)
    have hll : (((neatR many rows).take i).map insD).length = i := by
      rw [List.length_map, List.length_take, neat_len]
      omega
    have hget : ∀ a ∈ ops (rows.getD k .zero), (dgetK ((prs many 0 (kept many rows)).map entP) (.inl (a : Int))).getD (.int (a : Int)) = .int (nu many rows a : Nat) := fun a ha => by
      have hak := row_ops ok k1 a ha
      unfold nu
      by_cases q : a < many
      · rw [dget_none many (by omega), if_pos q]
        rfl
      · have hu : used many rows (a - many) = true := used_ops ok k1 k2 (by rw [show many + (a - many) = a by omega]; exact ha)
        have hg : (kept many rows)[cnt (used many rows) (a - many)]? = some (a - many) := filt_of _ _ (by omega) hu
        have := dget_some many (kept many rows) 0 _ kn hg
        rw [show many + (a - many) = a by omega, Nat.zero_add] at this
        rw [this, if_neg q]
        rfl
    have hnt := neat_at hk
    generalize rows.getD k .zero = I at hI g2 h0 hw hget hnt
    have hs1 : sliceD (insD I) none (some 1) = some (.tuple [.str (wordS I)]) := by cases I <;> exact sl_to _ 1
    refine ex_env rfl ?_
    repeat (first | with_reducible (first | refine op_ok g2 ?_ | refine op_ok h0 ?_ | refine op_ok hw ?_) | walk_at "s")
    refine if_both (fun hm => ?_) (fun hm => ?_)
    · obtain ⟨L, hL, hL2⟩ : ∃ L, insD I = .tuple (.str (wordS I) :: L) ∧ L.length ≤ 3 := by cases I <;> exact ⟨_, rfl, by simp⟩
      have hs : sliceD (insD I) (some 1) none = some (.tuple L) := by
        rw [hL]
        exact sl_from _ 1
      have ea : addD (.tuple [.str (wordS I)]) (.tuple L) = some (insD (renum (nu many rows) I)) := by
        rw [mask_same hm, hL]
        exact if_pos (fits (by rw [List.length_singleton]; omega))
      repeat (first | with_reducible (first | refine op_ok hs ?_ | refine op_ok hs1 ?_ | refine op_ok ea ?_) | walk_at "s")
      refine ⟨fits' (by rw [hll]; omega), ?_⟩
      repeat (first | walk_at "s")
      rw [take_at hnt, List.map_append]
      exact ⟨_, _, _, _, _, rfl⟩
    · have hs : sliceD (insD I) (some 1) none = some (.tuple (natsD (ops I))) := by
        rw [insD_form hm]
        exact sl_from _ 1
      have ho : (ops I).length ≤ 2 := by cases I <;> simp [ops]
      repeat (first | with_reducible (first | refine op_ok hs ?_) | walk_at "s")
      refine l_lc_map (fun d => match d with | .int a => .int (nu many rows a.toNat : Nat) | d => d) ?_
      repeat (first | with_reducible (first | refine op_ok hs ?_) | walk_at "s")
      have hr : (natsD (ops I)).map (fun d => match d with | .int a => PyData.int (nu many rows a.toNat : Nat) | d => d) = natsD ((ops I).map (nu many rows)) := by
        unfold natsD
        rw [List.map_map, List.map_map]
        rfl
      rw [hr]
      refine ⟨fits (by rw [nats_len]; omega), fun d hd2 => ?_, ?_⟩
      · obtain ⟨a, ha, rfl⟩ := List.mem_map.mp hd2
        have g := hget a ha
        refine ex_env rfl ?_
        repeat (first | with_reducible (first | refine f_dget2 ?_) | walk_at "s")
        refine ⟨_, _, rfl, rfl, ?_⟩
        exact ⟨g, rfl⟩
      · have ea : addD (.tuple [.str (wordS I)]) (.tuple (natsD ((ops I).map (nu many rows)))) = some (insD (renum (nu many rows) I)) := by
          have hm2 := mask_renum (nu many rows) I
          rw [insD_form (I := renum (nu many rows) I) (by rw [hm2.1]; exact hm), hm2.2, ops_renum]
          exact if_pos (fits (by rw [nats_len, List.length_map, List.length_singleton]; omega))
        repeat (first | with_reducible (first | refine op_ok hs1 ?_ | refine op_ok ea ?_) | walk_at "s")
        refine ⟨fits' (by rw [hll]; omega), ?_⟩
        repeat (first | walk_at "s")
        rw [take_at hnt, List.map_append]
        exact ⟨_, _, _, _, _, rfl⟩
  · rintro ρ ⟨⟩ ⟨x6, x7, x8, x9, x10, rfl⟩
    rw [nats_len, ← neat_len, List.take_length]
    repeat (first | walk_at "s")
    rfl
end Mi.K18
/-! k18: the chains. -/
namespace Mi.K18
open PySem L2 RS TI
def ch1 (n : Nat) : List Ins := (List.range n).map fun k => Ins.un .not k
def evR (o : Ins) (k : Nat) : Ins := if k % 2 = 0 then .bin .plus 0 (k - 1) else o
def ch2 (o : Ins) (n : Nat) : List Ins := (List.range n).map (evR o)
def ch3 (n : Nat) : List Ins := (List.range n).map fun k => Ins.bin .plus 0 k
theorem at1 {n k : Nat} (h : k < n) : (ch1 n).getD k .zero = .un .not k := by
  rw [List.getD_eq_getElem?_getD]
  unfold ch1
  rw [List.getElem?_map, List.getElem?_range h]
  rfl
theorem at2 {o : Ins} {n k : Nat} (h : k < n) : (ch2 o n).getD k .zero = evR o k := by
  rw [List.getD_eq_getElem?_getD]
  unfold ch2
  rw [List.getElem?_map, List.getElem?_range h]
  rfl
theorem len1 (n : Nat) : (ch1 n).length = n := by unfold ch1; rw [List.length_map, List.length_range]
theorem len2 (o : Ins) (n : Nat) : (ch2 o n).length = n := by unfold ch2; rw [List.length_map, List.length_range]
theorem len3 (n : Nat) : (ch3 n).length = n := by unfold ch3; rw [List.length_map, List.length_range]
theorem ok1 {n : Nat} (h0 : 1 ≤ n) (h : n ≤ 6000) : OkP 1 (ch1 n) := by
  refine ⟨fun j I hj => ?_, fun z => ?_, by rw [len1]; omega⟩
  · have hjl := lt_at hj
    rw [len1] at hjl
    unfold ch1 at hj
    rw [List.getElem?_map, List.getElem?_range hjl] at hj
    cases hj
    show j < 1 + j
    omega
  · have := len1 n
    rw [z, List.length_nil] at this
    omega
theorem ok2 {o : Ins} {n : Nat} (ho : ∀ j, 1 ≤ j → o.ok j) (h0 : 1 ≤ n) (h : n ≤ 6000) : OkP 1 (ch2 o n) := by
  refine ⟨fun j I hj => ?_, fun z => ?_, by rw [len2]; omega⟩
  · have hjl := lt_at hj
    rw [len2] at hjl
    unfold ch2 at hj
    rw [List.getElem?_map, List.getElem?_range hjl] at hj
    cases hj
    unfold evR
    split
    · exact ⟨by omega, by omega⟩
    · exact ho _ (by omega)
  · have := len2 o n
    rw [z, List.length_nil] at this
    omega
theorem all1 {n : Nat} (h0 : 1 ≤ n) (h : n ≤ 6000) : ∀ d i, i + d + 1 = n → used 1 (ch1 n) i = true
  | 0, i, e => by
    have := used_last (ok1 h0 h)
    rw [len1] at this
    rw [show i = n - 1 by omega]
    exact this
  | d + 1, i, e => by
    refine used_ops (ok1 h0 h) (k := i + 1) (by rw [len1]; omega) (all1 h0 h d (i + 1) (by omega)) ?_
    rw [at1 (by omega)]
    simp [ops]
    omega
theorem neat1 {n : Nat} (h0 : 1 ≤ n) (h : n ≤ 6000) : neatR 1 (ch1 n) = ch1 n :=
  neat_id (ok1 h0 h) fun i hi => all1 h0 h (n - 1 - i) i (by rw [len1] at hi; omega)
theorem ev_yes {o : Ins} {m : Nat} (ho : ∀ j, 1 ≤ j → o.ok j) (h : 2 * m + 1 ≤ 6000) : ∀ d i, i + d = m → used 1 (ch2 o (2 * m + 1)) (2 * i) = true
  | 0, i, e => by
    have := used_last (ok2 ho (by omega) h)
    rw [len2] at this
    rw [show 2 * i = 2 * m + 1 - 1 by omega]
    exact this
  | d + 1, i, e => by
    refine used_ops (ok2 ho (by omega) h) (k := 2 * (i + 1)) (by rw [len2]; omega) (ev_yes ho h d (i + 1) (by omega)) ?_
    rw [at2 (by omega)]
    unfold evR
    rw [if_pos (by omega)]
    simp [ops]
    omega
theorem ev_no {o : Ins} {m : Nat} (ho : ∀ j, 1 ≤ j → o.ok j) (h : 2 * m + 1 ≤ 6000) : ∀ d j, 2 * m + 1 - j ≤ d → j < 2 * m + 1 → used 1 (ch2 o (2 * m + 1)) j = true → j % 2 = 0
  | 0, j, hd, hj, _ => by omega
  | d + 1, j, hd, hj, hu => by
    have ok := ok2 ho (by omega) h
    rcases used_by ok _ (Nat.le_refl _) hu with e | ⟨k, hk, uk, m'⟩
    · rw [len2] at e
      omega
    · have hlt := row_ops ok hk _ m'
      rw [len2] at hk
      have he := ev_no ho h d k (by omega) hk uk
      rw [at2 hk] at m'
      unfold evR at m'
      rw [if_pos he] at m'
      have : 1 + j = 0 ∨ 1 + j = k - 1 := by simpa [ops] using m'
      omega
theorem ev_used {o : Ins} {m j : Nat} (ho : ∀ j, 1 ≤ j → o.ok j) (h : 2 * m + 1 ≤ 6000) (hj : j < 2 * m + 1) : used 1 (ch2 o (2 * m + 1)) j = decide (j % 2 = 0) := by
  by_cases e : j % 2 = 0
  · rw [decide_eq_true e]
    have := ev_yes ho h (m - j / 2) (j / 2) (by omega)
    rwa [show 2 * (j / 2) = j by omega] at this
  · rw [decide_eq_false e]
    rcases hu : used 1 (ch2 o (2 * m + 1)) j with _ | _
    · rfl
    · exact absurd (ev_no ho h _ j (Nat.le_refl _) hj hu) e
theorem ev_cnt {o : Ins} {m : Nat} (ho : ∀ j, 1 ≤ j → o.ok j) (h : 2 * m + 1 ≤ 6000) : ∀ j, j ≤ 2 * m + 1 → cnt (used 1 (ch2 o (2 * m + 1))) j = (j + 1) / 2
  | 0, _ => rfl
  | j + 1, hj => by
    rw [cnt_succ, ev_cnt ho h j (by omega), ev_used ho h (by omega)]
    by_cases e : j % 2 = 0
    · rw [decide_eq_true e, if_pos rfl]
      omega
    · rw [decide_eq_false e, if_neg (by simp)]
      omega
theorem neat2 {o : Ins} {m : Nat} (ho : ∀ j, 1 ≤ j → o.ok j) (h : 2 * m + 1 ≤ 6000) : neatR 1 (ch2 o (2 * m + 1)) = ch3 (m + 1) := by
  have hk : (kept 1 (ch2 o (2 * m + 1))).length = m + 1 := by
    have e : (kept 1 (ch2 o (2 * m + 1))).length = cnt (used 1 (ch2 o (2 * m + 1))) (ch2 o (2 * m + 1)).length := rfl
    rw [e, len2, ev_cnt ho h _ (Nat.le_refl _)]
    omega
  apply List.ext_getElem?
  intro i
  by_cases hi : i < m + 1
  · have hg := filt_of (used 1 (ch2 o (2 * m + 1))) (k := 2 * i) (2 * m + 1) (by omega) (ev_yes ho h (m - i) i (by omega))
    rw [ev_cnt ho h _ (by omega), show (2 * i + 1) / 2 = i by omega] at hg
    have hg2 : (kept 1 (ch2 o (2 * m + 1)))[i]? = some (2 * i) := by
      unfold kept
      rw [len2]
      exact hg
    rw [neat_at hg2, at2 (by omega)]
    unfold ch3 evR
    rw [if_pos (by omega), List.getElem?_map, List.getElem?_range hi]
    show some (Ins.bin .plus (nu 1 _ 0) (nu 1 _ (2 * i - 1))) = some (Ins.bin .plus 0 i)
    have e0 : nu 1 (ch2 o (2 * m + 1)) 0 = 0 := rfl
    have e1 : nu 1 (ch2 o (2 * m + 1)) (2 * i - 1) = i := by
      unfold nu
      by_cases z : i = 0
      · subst z
        rfl
      · rw [if_neg (by omega), ev_cnt ho h _ (by omega)]
        omega
    rw [e0, e1]
  · rw [List.getElem?_eq_none (by rw [neat_len, hk]; omega), List.getElem?_eq_none (by rw [len3]; omega)]
end Mi.K18
/-! k18: the law. -/
namespace Mi.K18
open PySem L2 RS TI BA
local macro_rules | `(tactic| walk_at "op") => `(tactic| with_reducible first
  | exact o_add | exact o_addI | exact o_sub | exact o_lt | exact o_le | exact o_gt | exact o_ge | exact o_eqI | exact o_neI | exact o_eqS | exact o_neS | exact o_neg | exact o_inv | exact o_and | exact o_or | exact o_xor
  | exact o_int | exact o_intB | exact o_abs | exact o_tupL | exact o_tupT | exact o_lenL | exact o_lenT | exact o_isN | exact o_isNotN)
local macro_rules | `(tactic| walk_at "ix") => `(tactic| ((with_reducible apply o_ixA); (first | apply o_ixL | apply o_ixT | apply o_dixS); focus rfl))
local macro_rules | `(tactic| walk_at "op2") => `(tactic| first
  | ((with_reducible apply o_inA); focus rfl)
  | ((with_reducible apply o_notInA); focus rfl)
  | (with_reducible (first | refine o_addL ?_ | refine o_addT ?_); simp only [List.length_cons, List.length_nil]; decide)
  | ((with_reducible apply o_modA); focus (exact mod_ok (by decide)))
  | ((with_reducible apply o_fdivA); focus (exact o_fdiv (by decide) (by decide))))
local macro_rules | `(tactic| walk_at "call") => `(tactic| fail)
local macro_rules | `(tactic| walk_at "s") => `(tactic| first
  | ((with_reducible apply s_set_env); focus (dsimp only [List.set] <;> rfl))
  | ((with_reducible apply f_callPK); (focus rfl); (focus rfl))
  | with_reducible first
    | refine s_seq ?_ | refine d_f (f_bin ?_) | refine d_f (f_c ?_) | refine s_set ?_ | refine v_rv ?_ | refine s_if ?_ | refine b_test ?_ | refine f_bin ?_ | refine f_c ?_ | refine s_ret ?_ | refine s_skip ?_
    | refine r_cons ?_ | refine r_nil ?_ | refine a_consT ?_ | refine a_nil ?_ | refine k_cons ?_ | refine k_nil ?_ | refine a_consF ?_
    | refine f_call ?_ | refine f_callP ?_ | refine f_keep ?_ | refine f_tup ?_ | refine f_if ?_ | refine f_andV ?_ | refine f_orV ?_ | refine f_notV ?_ | refine f_isi ?_ | refine f_sl ?_ | refine f_un ?_ | refine f_chain ?_
    | refine b_and ?_ | refine b_or ?_ | refine b_not ?_ | refine b_yes ?_
    | refine s_asg ?_ | refine s_app ?_ | refine s_par ?_ | refine s_pars ?_ | refine s_drop ?_ | refine s_retN ?_ | refine s_break ?_ | refine s_cont ?_ | refine s_end ?_ | refine s_setP ?_ | refine s_dropP ?_ | refine s_appP ?_ | refine p_at ?_ | refine p_end ?_ | refine s_par3 ?_ | refine ex_three ?_ | refine i_zip ?_ | refine zz_L ?_ | refine zz_T ?_ | refine l_revL ?_ | refine ex_lst ?_
    | refine l_lst ?_ | refine l_dict ?_ | refine l_listL ?_ | refine o_no ?_ | refine o_part ?_ | refine i_enum ?_ | refine i_range1 ?_ | refine v_new ?_ | refine vs_nil ?_ | refine vs_cons ?_
  | ((with_reducible apply d_v); focus rfl)
  | ((with_reducible apply f_v); focus rfl)
  | ((with_reducible apply s_aug); focus rfl)
  | ((with_reducible apply f_callT); focus rfl)
  | ((with_reducible apply w_b); (focus rfl))
  | ((with_reducible apply i_itemsB); (focus rfl); (focus rfl))
  | with_reducible first | refine d_f ?_ | refine w_f ?_ | refine i_items ?_
  | ((with_reducible refine if_yes ?_ ?_); focus rfl)
  | ((with_reducible refine if_no ?_ ?_); focus rfl)
  | ((with_reducible apply op_ok); focus (first | walk_at "op" | walk_at "ix" | walk_at "op2"))
  | ((with_reducible refine len_ok ?_ ?_); focus (simp only [List.length_cons, List.length_nil]; decide))
  | ((with_reducible refine pk_ok ?_ ?_); focus rfl)
  | ((with_reducible refine lt_ok ?_ ?_); focus (simp only [List.length_append, List.length_cons, List.length_nil]; decide))
  | ((with_reducible refine dict_ok ?_ ?_); focus (exact ⟨rfl, by decide, by decide⟩))
  | ((with_reducible refine par_ok ?_ ?_); focus (refine ⟨?_, rfl⟩; simp only [List.length_cons, List.length_nil]; decide))
  | walk_at "call"
  | with_reducible first | refine ex_bool ?_ | refine ex_int ?_ | refine ex_itL ?_ | refine ex_itT ?_ | refine ex_rng ?_ | refine ex_two ?_ | refine ex_lstL ?_ | refine ex_lstT ?_
  | ((with_reducible apply ex_env); focus rfl)
  | ((with_reducible apply ex_own); focus rfl))
theorem q_power : f__law_power = BA.f__law_power := rfl
theorem q_draw : f__law_draw = BA.f__law_draw := rfl
theorem q_pick : f__law_pick = BA.f__law_pick := rfl
theorem q_handed : f__law_handed = BA.f__law_handed := rfl
theorem q_book : f__law_book = BA.f__law_book := rfl
theorem q_program : f__law_program = BA.f__law_program := rfl
theorem q_any : f__law_any_words = BA.f__law_any_words := rfl
theorem q_bag : f__law_bag = BA.f__law_bag := rfl
theorem few_used {many s : Nat} {rows : List Ins} (ok : OkP many rows) (hs : s ≤ 5) (hl : rows.getD (rows.length - 1) .zero = .bin .xor (many + s) (many + (s - 1))) : ∀ d j, rows.length - j ≤ d → j < rows.length → used many rows j = true → j = rows.length - 1 ∨ j ≤ 5
  | 0, j, h, hj, _ => by omega
  | d + 1, j, h, hj, hu => by
    rcases used_by ok _ (Nat.le_refl _) hu with e | ⟨k, hk, uk, m⟩
    · exact .inl e
    · have hlt := row_ops ok hk _ m
      rcases few_used ok hs hl d k (by omega) hk uk with e | e
      · rw [e, hl] at m
        have : many + j = many + s ∨ many + j = many + (s - 1) := by simpa [ops] using m
        exact .inr (by omega)
      · exact .inr (by omega)
theorem cnt_flat {u : Nat → Bool} {a : Nat} : ∀ d, (∀ j, a ≤ j → j < a + d → u j = false) → cnt u (a + d) = cnt u a
  | 0, _ => rfl
  | d + 1, h => by
    show cnt u (a + d + 1) = _
    rw [cnt_succ, h (a + d) (by omega) (by omega), cnt_flat d fun j h1 h2 => h j h1 (by omega)]
    rfl
theorem kept_few {many s : Nat} {rows : List Ins} (ok : OkP many rows) (hs : s ≤ 5) (h7 : 7 ≤ rows.length) (hl : rows.getD (rows.length - 1) .zero = .bin .xor (many + s) (many + (s - 1))) : (kept many rows).length < 64 := by
  have h6 : cnt (used many rows) 6 ≤ 6 := by
    unfold cnt
    exact Nat.le_trans (List.length_filter_le _ _) (by rw [List.length_range]; exact Nat.le_refl _)
  have hf := cnt_flat (u := used many rows) (a := 6) (rows.length - 1 - 6) fun j h1 h2 => by
    rcases hu : used many rows j with _ | _
    · rfl
    · rcases few_used ok hs hl _ j (Nat.le_refl _) (by omega) hu with e | e <;> omega
  have he : (kept many rows).length = cnt (used many rows) (rows.length - 1 + 1) := by
    rw [show rows.length - 1 + 1 = rows.length by omega]
    rfl
  rw [he, cnt_succ, show rows.length - 1 = 6 + (rows.length - 1 - 6) by omega, hf]
  split <;> omega
theorem cutL_init {α : Type} (xs : List α) : cutL xs none (some (-1)) = xs.take (xs.length - 1) := by
  unfold cutL
  rw [HT.sIx_none, List.drop_zero, Nat.sub_zero]
  congr 1
  unfold HT.sIx
  simp
  omega
theorem thin {n : Int} {t : Tr} {many size : Nat} {P : PyData → Tr → Prop} (h : TrOk n t) (hn : n ≤ 500000000) (hm : many ≤ 10) (hs0 : 7 ≤ size) (hs : size ≤ 100)
    (q : ∀ (rows : List Ins) (t' : Tr), TrOk (n + 11001) t' → OkP many rows → rows.length ≤ 100 → (kept many rows).length < 64 → P (progD many rows) t') :
    ∃ z t2, f__law_thin t [.int (many : Int), .int (size : Int)] = some (z, t2) ∧ P z t2 := by
  refine funT_ok ?_
  refine s_env (ρ' := [some (.tray 0), some (.bor (.int many)), some (.bor (.int size)), none, none, none]) rfl ?_
  unfold m__law_thin
  obtain ⟨d4, e4, w4⟩ := BA.book 4 (by omega)
  rw [← q_book] at e4
  repeat (first | with_reducible (first | refine op_ok e4 ?_) | walk_at "s")
  refine BA.program h hn hm (by omega) (by omega) w4 fun rows t1 h1 ok hl => ?_
  repeat (first | walk_at "s")
  rw [if_pos (decide_eq_true (by omega : (1 : Int) < (size : Int)))]
  have e6 : minD [.int (size : Int), .int 6] = some (.int ((6 : Nat) : Int)) := by
    show some (PyData.int _) = _
    congr 2
    omega
  repeat (first | with_reducible (first | refine op_ok e6 ?_) | walk_at "s")
  refine draw_exI 6 rfl h1 (by omega) (by omega) (by omega) fun r t2 h2 hr => ?_
  have ex : maxD [.int 0, .int ((r : Int) - 1)] = some (.int ((r - 1 : Nat) : Int)) := by
    show some (PyData.int _) = _
    congr 2
    omega
  repeat (first | with_reducible (first | refine op_ok ex ?_) | walk_at "s")
  rw [if_pos (decide_eq_true (by omega : (6 : Int) < (size : Int)))]
  obtain ⟨R0, hR0⟩ : ∃ R0, R0 = rows.take (size - 1) := ⟨_, rfl⟩
  have hR0l : R0.length = size - 1 := by rw [hR0, List.length_take]; omega
  have g1 : ixD (progD many rows) (.int 1) = some (.tuple (rows.map insD)) := atI_nat (j := 1) rfl
  have g2 : sliceD (.tuple (rows.map insD)) none (some (-1)) = some (.tuple (R0.map insD)) := by
    show some (PyData.tuple (cutL _ none (some (-1)))) = _
    rw [cutL_init, List.length_map, hl, hR0, List.map_take]
  have g3 : addD (.tuple (R0.map insD)) (.tuple [.tuple [.str "xor", .int ((many : Int) + (r : Int)), .int ((many : Int) + ((r - 1 : Nat) : Int))]]) = some (.tuple ((R0 ++ [Ins.bin .xor (many + r) (many + (r - 1))]).map insD)) := by
    rw [List.map_append]
    exact if_pos (fits (by rw [List.length_map, List.length_singleton, hR0l]; omega))
  repeat (first | with_reducible (first | refine op_ok g1 ?_ | refine op_ok g2 ?_ | refine op_ok g3 ?_) | walk_at "s")
  have hlen : (R0 ++ [Ins.bin .xor (many + r) (many + (r - 1))]).length = size := by
    rw [List.length_append, List.length_singleton, hR0l]
    omega
  have ok2 : OkP many (R0 ++ [Ins.bin .xor (many + r) (many + (r - 1))]) := by
    refine ⟨fun j I hj => ?_, by simp, by omega⟩
    by_cases q : j < R0.length
    · rw [List.getElem?_append_left q, hR0] at hj
      rw [List.getElem?_take_of_lt (by omega)] at hj
      exact ok.ok j I hj
    · have := lt_at hj
      rw [List.getElem?_append_right (by omega), show j - R0.length = 0 by omega] at hj
      cases hj
      exact ⟨by omega, by omega⟩
  refine q _ t2 (h2.mono (by omega)) ok2 (by omega) (kept_few ok2 (s := r) (by omega) (by omega) ?_)
  rw [hlen, List.getD_eq_getElem?_getD, List.getElem?_append_right (by omega), show size - 1 - R0.length = 0 by omega]
  rfl
theorem sh_flat {n : Nat} {I : Ins} (h : I.ok n) (hn : n ≤ 100000) (hm : isMask I = false) : Sh (insD I) 4000 2 := by
  have sm : ∀ a, a < n → Sh (.int (a : Int)) 1925 0 := fun a ha => sh_nat (k := 20) (Nat.lt_of_lt_of_le ha (Nat.le_trans hn (by decide))) (by decide)
  cases I with
  | zero => exact (sh_tup (sh_cons (sh_word (x := "zero") ⟨by decide, by decide +kernel⟩) sh_nil)).mono (by decide) (by decide)
  | ones => exact (sh_tup (sh_cons (sh_word (x := "ones") ⟨by decide, by decide +kernel⟩) sh_nil)).mono (by decide) (by decide)
  | un o a => exact (sh_tup (sh_cons (sh_word (u1_len o)) (sh_cons (sm a h) sh_nil))).mono (by decide) (by decide)
  | bin o a b => exact (sh_tup (sh_cons (sh_word (u2_len o)) (sh_cons (sm a h.1) (sh_cons (sm b h.2) sh_nil)))).mono (by decide) (by decide)
  | mask bits => cases hm
theorem sh_long {rows : List Ins} (ok : OkP 1 rows) (hl : rows.length ≤ 2100) (hm : ∀ I ∈ rows, isMask I = false) : reprE [progD 1 rows] = some (.str (progD 1 rows).shown) := by
  have h1 : ShA (rows.map insD) (rows.length * 4002) 2 := sh_map fun I m => by
    obtain ⟨j, hj⟩ := List.getElem?_of_mem m
    have := ok.few
    have := lt_at hj
    exact sh_flat (ok.ok j I hj) (by omega) (hm I m)
  have h2 : Sh (progD 1 rows) (rows.length * 4002 + 4000) 4 := (sh_tup (sh_cons ((sh_nat (n := 1) (k := 10) (by decide) (by decide)).mono (Nat.le_refl _) (Nat.zero_le 3)) (sh_cons (sh_tup h1) (sh_nil.mono (Nat.le_refl _) (Nat.zero_le 3))))).mono (by omega) (by decide)
  exact (h2.any).repr (by omega) (by decide)
theorem eq_strs (s : Str) : eqD (.str s) (.str s) = some (.bool true) := by
  show some (PyData.bool (s == s)) = _
  rw [beq_self_eq_true]
theorem chain {n : Int} {t : Tr} {P : PyData → Tr → Prop} (h : TrOk n t) (hn : n ≤ 500000000) (q : ∀ t', P (.bool true) t') : ∃ z t2, f__law_is_chain_kept t [] = some (z, t2) ∧ P z t2 := by
  refine funT_ok ?_
  refine s_env (ρ' := [some (.tray 0), none, none, none, none, none]) rfl ?_
  unfold m__law_is_chain_kept
  repeat (first | walk_at "s")
  refine draw_exI 801 rfl h (by omega) (by omega) (by omega) fun r t1 h1 hr => ?_
  repeat (first | walk_at "s")
  refine pick_ex h1 (by omega) (by simp) (by simp) fun o t2 h2 hm => ?_
  obtain ⟨O, hO, eO, mO⟩ : ∃ O : Ins, (∀ j, 1 ≤ j → O.ok j) ∧ o = insD O ∧ isMask O = false := by
    simp only [List.mem_cons, List.not_mem_nil, or_false] at hm
    rcases hm with rfl | rfl | rfl
    · exact ⟨.un .minus 0, fun j hj => hj, rfl, rfl⟩
    · exact ⟨.ones, fun j hj => trivial, rfl, rfl⟩
    · exact ⟨.bin .plus 0 0, fun j hj => ⟨hj, hj⟩, rfl, rfl⟩
  subst eO
  clear hm
  have hz : (1200 : Int) + (r : Int) = ((1200 + r : Nat) : Int) := by omega
  rw [hz]
  generalize hN : 1200 + r = N
  repeat (first | walk_at "s")
  refine l_lc_map (fun d => .tuple [.str "not", d]) ?_
  repeat (first | walk_at "s")
  have w1 : (natsD (List.range N)).map (fun d => PyData.tuple [.str "not", d]) = (ch1 N).map insD := by
    unfold natsD ch1
    rw [List.map_map, List.map_map]
    rfl
  refine ⟨by omega, ?_⟩
  rw [Int.toNat_natCast, w1]
  refine ⟨fits (by rw [nats_len, List.length_range]; omega), fun d hd => ?_, ?_⟩
  · obtain ⟨a, ha, rfl⟩ := List.mem_map.mp hd
    refine ex_env rfl ?_
    repeat (first | walk_at "s")
    exact ⟨rfl, rfl⟩
  have k1 := ok1 (n := N) (by omega) (by omega)
  have en := neat_walk k1 (by omega)
  rw [neat1 (by omega) (by omega)] at en
  have er := sh_long k1 (by rw [len1]; omega) (fun I m => by
    obtain ⟨a, _, rfl⟩ := List.mem_map.mp m
    rfl)
  have e0 : PyData.tuple [.int 1, .tuple ((ch1 N).map insD)] = progD 1 (ch1 N) := rfl
  have ns := ne_strs (progD 1 (ch1 N)).shown
  repeat (first | walk_at "s")
  rw [e0]
  generalize (progD 1 (ch1 N)).shown = s1 at er ns
  obtain ⟨pl, hpl⟩ : ∃ pl, progD 1 (ch1 N) = .tuple pl := ⟨_, rfl⟩
  rw [hpl] at en er ⊢
  repeat (first | with_reducible (first | refine op_ok en ?_ | refine op_ok er ?_ | refine op_ok ns ?_) | walk_at "s")
  have m2 : ∀ a : Nat, modD (.int (a : Int)) (.int 2) = some (.int ((a % 2 : Nat) : Int)) := fun a => mod_two a
  have mN := m2 N
  obtain ⟨m, hm, hm2⟩ : ∃ m : Nat, (N : Int) - 1 + ((N % 2 : Nat) : Int) = ((2 * m + 1 : Nat) : Int) ∧ 2 * m + 1 ≤ 2001 := ⟨(N - 2 + N % 2) / 2, by omega, by omega⟩
  refine l_lc_map (fun d => match d with | .int a => insD (evR O a.toNat) | d => d) ?_
  repeat (first | with_reducible (first | refine op_ok mN ?_) | walk_at "s")
  rw [hm]
  have w2 : (natsD (List.range (2 * m + 1))).map (fun d => match d with | .int a => insD (evR O a.toNat) | d => d) = (ch2 O (2 * m + 1)).map insD := by
    unfold natsD ch2
    rw [List.map_map, List.map_map]
    rfl
  refine ⟨by omega, ?_⟩
  rw [Int.toNat_natCast, w2]
  refine ⟨fits (by rw [nats_len, List.length_range]; omega), fun d hd => ?_, ?_⟩
  · obtain ⟨a, ha, rfl⟩ := List.mem_map.mp hd
    have ma := m2 a
    refine ex_env rfl ?_
    repeat (first | with_reducible (first | refine op_ok ma ?_) | walk_at "s")
    have hbe : (((a % 2 : Nat) : Int) == 0) = decide (a % 2 = 0) := by
      by_cases z : a % 2 = 0
      · rw [z]
        rfl
      · rw [decide_eq_false z]
        exact beq_eq_false_iff_ne.mpr (by omega)
    rw [hbe]
    have ex : maxD [.int 0, .int ((a : Int) - 1)] = some (.int ((a - 1 : Nat) : Int)) := by
      show some (PyData.int _) = _
      congr 2
      omega
    refine if_both (fun hb => ?_) (fun hb => ?_)
    · repeat (first | with_reducible (first | refine op_ok ex ?_) | walk_at "s")
      refine ⟨?_, rfl⟩
      show _ = insD (evR O ((a : Int).toNat))
      rw [Int.toNat_natCast]
      unfold evR
      rw [if_pos (of_decide_eq_true hb)]
      rfl
    · refine f_v (d := insD O) rfl ?_
      refine ⟨?_, rfl⟩
      show _ = insD (evR O ((a : Int).toNat))
      rw [Int.toNat_natCast]
      unfold evR
      rw [if_neg (of_decide_eq_false hb)]
  have k2 := ok2 (n := 2 * m + 1) hO (by omega) (by omega)
  have en2 := neat_walk k2 (by omega)
  rw [neat2 hO (by omega)] at en2
  have k3 : OkP 1 (ch3 (m + 1)) := by
    have := neat_ok k2
    rwa [neat2 hO (by omega)] at this
  have er3 := sh_long k3 (by rw [len3]; omega) (fun I m => by
    obtain ⟨a, _, rfl⟩ := List.mem_map.mp m
    rfl)
  have e2 : PyData.tuple [.int 1, .tuple ((ch2 O (2 * m + 1)).map insD)] = progD 1 (ch2 O (2 * m + 1)) := rfl
  have e3 : PyData.tuple [.int 1, .tuple ((ch3 (m + 1)).map insD)] = progD 1 (ch3 (m + 1)) := rfl
  have l2 : lenD [.list ((ch2 O (2 * m + 1)).map insD)] = some (.int ((2 * m + 1 : Nat) : Int)) := by
    show some (PyData.int (((((ch2 O (2 * m + 1)).map insD).length : Nat)) : Int)) = _
    rw [List.length_map, len2]
  have es3 := eq_strs (progD 1 (ch3 (m + 1))).shown
  have en2' : f_neat [.tuple [.int 1, .tuple ((ch2 O (2 * m + 1)).map insD)]] = some (progD 1 (ch3 (m + 1))) := en2
  have er3' : reprE [.tuple [.int 1, .tuple ((ch3 (m + 1)).map insD)]] = some (.str (progD 1 (ch3 (m + 1))).shown) := er3
  have l3 := div_two (2 * m + 1)
  have hq : (((2 * m + 1) / 2 : Nat) : Int) + 1 = ((m + 1 : Nat) : Int) := by omega
  have w3 : (natsD (List.range (m + 1))).map (fun d => PyData.tuple [.str "plus", .int 0, d]) = (ch3 (m + 1)).map insD := by
    unfold natsD ch3
    rw [List.map_map, List.map_map]
    rfl
  clear en2 e2 e3 er ns en
  generalize (progD 1 (ch3 (m + 1))).shown = s3 at er3 er3' es3
  obtain ⟨pl3, hpl3⟩ : ∃ pl3, progD 1 (ch3 (m + 1)) = .tuple pl3 := ⟨_, rfl⟩
  rw [hpl3] at en2' er3
  refine ⟨_, rfl, ?_⟩
  repeat (first | with_reducible (first | refine op_ok l2 ?_ | refine op_ok en2' ?_ | refine op_ok er3 ?_) | walk_at "s")
  refine l_lc_map (fun d => .tuple [.str "plus", .int 0, d]) ?_
  repeat (first | with_reducible (first | refine op_ok l2 ?_ | refine op_ok l3 ?_) | walk_at "s")
  rw [hq]
  refine ⟨by omega, ?_⟩
  rw [Int.toNat_natCast, w3]
  refine ⟨fits (by rw [nats_len, List.length_range]; omega), fun d hd => ?_, ?_⟩
  · obtain ⟨a, ha, rfl⟩ := List.mem_map.mp hd
    refine ex_env rfl ?_
    repeat (first | walk_at "s")
    exact ⟨rfl, rfl⟩
  repeat (first | with_reducible (first | refine op_ok er3' ?_ | refine op_ok es3 ?_) | walk_at "s")
  exact q _
theorem q_result : f_result = RA.f_result := rfl
abbrev eL (x2 x3 x4 x5 x6 x7 x8 x9 : Option Val) : Env := [none, some (.tray 0), x2, x3, x4, x5, x6, x7, x8, x9]
abbrev mTail : MS Tr := (mSeq (mPar 5 6 (mConsV (mRv (mCall reprE (mCons (mV 4) mNil))) (mConsV (mRv (mCallP [true] f__law_neat (mCons (mV 4) mNil))) mNilV)))
  (mSeq (mSet 7 (mRv (mIf (mTest (mBin eqD (mV 2) (mC (.int 2)))) (mCallP [true] f_neat (mPick [0] (mCons (mV 4) mNil))) (mCallP [true] f_neat (mCons (mV 4) mNil)))))
  (mSeq (mIfS (mOr (mTest (mBin neD (mCall reprE (mCons (mV 7) mNil)) (mCall reprE (mCons (mV 6) mNil)))) (mOr (mTest (mBin neD (mCall reprE (mCons (mCallP [true] f_neat (mCons (mV 7) mNil)) mNil)) (mCall reprE (mCons (mV 6) mNil)))) (mAnd (mTest (mBin eqD (mV 2) (mC (.int 1)))) (mTest (mBin neD (mCall reprE (mCons (mCallP [true] f_neat (mCons (mV 4) mNil)) mNil)) (mCall reprE (mCons (mV 6) mNil))))))) (mRet (mC (.bool false))) mSkip)
  (mSeq (mSet 8 (mRv (mBin addD (mC (.int 1)) (mCallT [true] f__law_draw (mCons (mV 1) (mCons (mC (.int 12)) mNil))))))
  (mSeq (mSet 9 (mRv (mCallT [true, true] f__law_handed (mCons (mV 1) (mCons (mV 3) (mCons (mV 8) mNil))))))
  (mIfS (mOr (mTest (mBin neD (mCall reprE (mCons (mCallP [true, true, true] f_result (mCons (mV 7) (mCons (mV 8) (mCons (mV 9) mNil)))) mNil)) (mCall reprE (mCons (mCallP [true, true, true] f_result (mCons (mV 4) (mCons (mV 8) (mCons (mV 9) mNil)))) mNil)))) (mTest (mBin neD (mCall reprE (mCons (mV 4) mNil)) (mV 5)))) (mRet (mC (.bool false))) mSkip))))))
def mTurn : MS Tr := (mSeq (mSet 3 (mRv (mCallT [true] f__law_draw (mCons (mV 1) (mCons (mC (.int 3)) mNil)))))
  (mSeq (mSet 4 (mRv (mCallT [true, true, true] f__law_program (mCons (mV 1) (mCons (mV 3) (mCons (mBin addD (mC (.int 1)) (mCallT [true] f__law_draw (mCons (mV 1) (mCons (mC (.int 20)) mNil)))) (mCons (mCallT [] f__law_any_words (mCons (mV 1) mNil)) mNil)))))))
  (mSeq (mIfS (mTest (mBin gtD (mV 2) (mC (.int 4)))) (mSet 4 (mRv (mCallT [true, true] f__law_thin (mCons (mV 1) (mCons (mV 3) (mCons (mCallT [true] f__law_pick (mCons (mV 1) (mCons (mKeep (mLst (mCons (mC (.int 7)) (mCons (mC (.int 12)) (mCons (mC (.int 30)) (mCons (mC (.int 100)) mNil)))))) mNil))) mNil)))))) mSkip)
  (mSeq (mPar 5 6 (mConsV (mRv (mCall reprE (mCons (mV 4) mNil))) (mConsV (mRv (mCallP [true] f__law_neat (mCons (mV 4) mNil))) mNilV)))
  (mSeq (mSet 7 (mRv (mIf (mTest (mBin eqD (mV 2) (mC (.int 2)))) (mCallP [true] f_neat (mPick [0] (mCons (mV 4) mNil))) (mCallP [true] f_neat (mCons (mV 4) mNil)))))
  (mSeq (mIfS (mOr (mTest (mBin neD (mCall reprE (mCons (mV 7) mNil)) (mCall reprE (mCons (mV 6) mNil)))) (mOr (mTest (mBin neD (mCall reprE (mCons (mCallP [true] f_neat (mCons (mV 7) mNil)) mNil)) (mCall reprE (mCons (mV 6) mNil)))) (mAnd (mTest (mBin eqD (mV 2) (mC (.int 1)))) (mTest (mBin neD (mCall reprE (mCons (mCallP [true] f_neat (mCons (mV 4) mNil)) mNil)) (mCall reprE (mCons (mV 6) mNil))))))) (mRet (mC (.bool false))) mSkip)
  (mSeq (mSet 8 (mRv (mBin addD (mC (.int 1)) (mCallT [true] f__law_draw (mCons (mV 1) (mCons (mC (.int 12)) mNil))))))
  (mSeq (mSet 9 (mRv (mCallT [true, true] f__law_handed (mCons (mV 1) (mCons (mV 3) (mCons (mV 8) mNil))))))
  (mIfS (mOr (mTest (mBin neD (mCall reprE (mCons (mCallP [true, true, true] f_result (mCons (mV 7) (mCons (mV 8) (mCons (mV 9) mNil)))) mNil)) (mCall reprE (mCons (mCallP [true, true, true] f_result (mCons (mV 4) (mCons (mV 8) (mCons (mV 9) mNil)))) mNil)))) (mTest (mBin neD (mCall reprE (mCons (mV 4) mNil)) (mV 5)))) (mRet (mC (.bool false))) mSkip)))))))))
section
variable {N : Env → Tr → Prop} {R : PyData → Tr → Prop} {B C : Env → Tr → Prop}
theorem tail {n : Int} {j many : Nat} {rows : List Ins} {t : Tr} {x5 x6 x7 x8 x9 : Option Val} (h : TrOk n t) (hn : n ≤ 500000000) (ok : OkP many rows) (hm : many ≤ 2) (h1 : rows.length ≤ 100) (h64 : (kept many rows).length < 64)
    (q : ∀ x5 x6 x7 x8 x9 t', TrOk (n + 1000) t' → N (eL (some (.fro (.int (j : Int)))) (some (.fro (.int (many : Int)))) (some (.fro (progD many rows))) x5 x6 x7 x8 x9) t') :
    Es mTail (eL (some (.fro (.int (j : Int)))) (some (.fro (.int (many : Int)))) (some (.fro (progD many rows))) x5 x6 x7 x8 x9) t N R B C := by
  unfold mTail
  have en := neat_walk ok (by omega)
  have okN := neat_ok ok
  have et := neat_walk okN (by omega)
  rw [neat_twice ok] at et
  have el := neat_law ok h64
  have hlN : (neatR many rows).length ≤ 100 := by
    rw [neat_len]
    omega
  have er : reprE [progD many rows] = _ := (sh_prog ok (by omega)).any.repr (by omega) (by decide)
  have er2 : reprE [progD many (neatR many rows)] = _ := (sh_prog okN (by omega)).any.repr (by omega) (by decide)
  have n1 := ne_strs (progD many rows).shown
  have n2 := ne_strs (progD many (neatR many rows)).shown
  generalize (progD many rows).shown = s1 at er n1
  generalize (progD many (neatR many rows)).shown = s2 at er2 n2
  have hres : ∀ (w : Nat) (ws : List Nat), w ≤ 12 → ws.length = many → OkW w ws → f_result [progD many rows, .int w, .tuple (natsD ws)] = some (.int (res w ws rows : Nat)) ∧ f_result [progD many (neatR many rows), .int w, .tuple (natsD ws)] = some (.int (res w ws rows : Nat)) ∧ ∃ s3, reprE [.int (res w ws rows : Nat)] = some (.str s3) ∧ neD (.str s3) (.str s3) = some (.bool false) := fun w ws hw hl hk => by
    have a1 := result_ok ok hl hk (by omega) (by omega)
    have a2 := result_ok okN hl hk (by omega) (by omega)
    rw [neat_res ok hl] at a2
    rw [← q_result] at a1 a2
    exact ⟨a1, a2, _, (sh_nat (res_lt (rows := rows) hk) (by omega)).any.repr (by omega) (by decide), ne_strs _⟩
  obtain ⟨pl, hpl⟩ : ∃ pl, progD many rows = .tuple pl := ⟨_, rfl⟩
  obtain ⟨pn, hpn⟩ : ∃ pn, progD many (neatR many rows) = .tuple pn := ⟨_, rfl⟩
  rw [hpl, hpn] at en el hres
  rw [hpn] at et er2
  rw [hpl] at er q ⊢
  repeat (first | with_reducible (first | refine op_ok en ?_ | refine op_ok et ?_ | refine op_ok el ?_ | refine op_ok er ?_ | refine op_ok er2 ?_ | refine op_ok n1 ?_ | refine op_ok n2 ?_) | walk_at "s")
  have enk : f_neat (pick [0] [.tuple pl]) = some (.tuple pn) := en
  refine if_both (fun _ => ?_) (fun _ => ?_) <;>
  · repeat (first | with_reducible (first | refine op_ok enk ?_ | refine op_ok en ?_ | refine op_ok et ?_ | refine op_ok er ?_ | refine op_ok er2 ?_ | refine op_ok n1 ?_ | refine op_ok n2 ?_) | walk_at "s")
    refine if_both (fun _ => ?_) (fun _ => ?_) <;>
    · repeat (first | with_reducible (first | refine op_ok enk ?_ | refine op_ok en ?_ | refine op_ok et ?_ | refine op_ok er ?_ | refine op_ok er2 ?_ | refine op_ok n1 ?_ | refine op_ok n2 ?_) | walk_at "s")
      refine draw_exI 12 rfl h (by omega) (by omega) (by omega) fun r t1 h1 hr => ?_
      repeat (first | walk_at "s")
      rw [show (1 : Int) + (r : Int) = ((1 + r : Nat) : Int) by omega]
      refine handed h1 (by omega) (by omega) (by omega) (by omega) fun ws t2 h2 hl hk => ?_
      obtain ⟨a1, a2, s3, a3, n3⟩ := hres (1 + r) ws (by omega) hl hk
      generalize 1 + r = w at a1 a2 a3 hl hk ⊢
      repeat (first | with_reducible (first | refine op_ok a1 ?_ | refine op_ok a2 ?_ | refine op_ok a3 ?_ | refine op_ok n3 ?_ | refine op_ok enk ?_ | refine op_ok en ?_ | refine op_ok et ?_ | refine op_ok er ?_ | refine op_ok er2 ?_ | refine op_ok n1 ?_ | refine op_ok n2 ?_) | walk_at "s")
      exact q _ _ _ _ _ _ (h2.mono (by omega))
theorem turn {n : Int} {j : Nat} {t : Tr} {x3 x4 x5 x6 x7 x8 x9 : Option Val} (h : TrOk n t) (hn : n ≤ 400000000)
    (q : ∀ x3 x4 x5 x6 x7 x8 x9 t', TrOk (n + 20000) t' → N (eL (some (.fro (.int (j : Int)))) x3 x4 x5 x6 x7 x8 x9) t') :
    Es mTurn (eL (some (.fro (.int (j : Int)))) x3 x4 x5 x6 x7 x8 x9) t N R B C := by
  have tl := fun {m : Int} {many : Nat} {rows : List Ins} {t : Tr} {x5 x6 x7 x8 x9 : Option Val} (h : TrOk m t) (hn : m ≤ n + 15000) ok (hm : many ≤ 2) h1 h64 => tail (N := N) (R := R) (B := B) (C := C) (j := j) (many := many) (rows := rows) (x5 := x5) (x6 := x6) (x7 := x7) (x8 := x8) (x9 := x9) h (by omega) ok hm h1 h64 fun x5 x6 x7 x8 x9 t' h' => q _ _ _ _ _ _ _ t' (h'.mono (by omega))
  unfold mTurn
  repeat (first | walk_at "s")
  refine draw_exI 3 rfl h (by omega) (by omega) (by omega) fun many t1 h1 hm => ?_
  repeat (first | walk_at "s")
  refine draw_exI 20 rfl h1 (by omega) (by omega) (by omega) fun size t2 h2 hs => ?_
  repeat (first | walk_at "s")
  rw [show (1 : Int) + (size : Int) = ((1 + size : Nat) : Int) by omega]
  refine any_words h2 (by omega) fun wl t3 h3 hw => ?_
  repeat (first | walk_at "s")
  refine program h3 (by omega) (by omega) (by omega) (by omega) hw fun rows t4 h4 ok hl => ?_
  have h64 : (kept many rows).length < 64 := Nat.lt_of_le_of_lt kept_le (by omega)
  repeat (first | walk_at "s")
  refine if_both (fun _ => ?_) (fun _ => ?_)
  · repeat (first | walk_at "s")
    refine pick_ex h4 (by omega) (by simp) (by simp) fun x t5 h5 hx => ?_
    obtain ⟨sz, rfl, hs0, hs1⟩ : ∃ sz : Nat, x = .int (sz : Int) ∧ 7 ≤ sz ∧ sz ≤ 100 := by
      simp only [List.mem_cons, List.not_mem_nil, or_false] at hx
      rcases hx with rfl | rfl | rfl | rfl
      · exact ⟨7, rfl, by omega, by omega⟩
      · exact ⟨12, rfl, by omega, by omega⟩
      · exact ⟨30, rfl, by omega, by omega⟩
      · exact ⟨100, rfl, by omega, by omega⟩
    clear hx
    repeat (first | walk_at "s")
    refine thin h5 (by omega) (by omega) hs0 hs1 fun rows2 t6 h6 ok2 hl2 k64 => ?_
    repeat (first | ((with_reducible show Es mTail _ _ _ _ _ _); exact tl h6 (by omega) ok2 (by omega) hl2 k64) | walk_at "s")
  · repeat (first | ((with_reducible show Es mTail _ _ _ _ _ _); exact tl h4 (by omega) ok (by omega) (by omega) h64) | walk_at "s")
end
theorem law_ok {t : Tr} (h : TrOk 0 t) : ∃ t', m_law (entryL 10 1) t = some (.rt (.bool true), t') := by
  suffices hs : Es m_law (eL none none none none none none none none) t No (fun d _ => d = .bool true) No No by
    obtain ⟨r, t', e, q⟩ := hs
    cases r with
    | rt d => cases (show d = _ from q); exact ⟨t', e⟩
    | nx ρ => exact q.elim
    | bk ρ => exact q.elim
    | ct ρ => exact q.elim
  unfold m_law
  repeat (first | walk_at "s")
  refine draw_exI 5 rfl h (by omega) (by omega) (by omega) fun r t1 h1 hr => ?_
  repeat (first | walk_at "s")
  refine if_both (fun _ => ?_) (fun _ => ?_)
  · repeat (first | walk_at "s")
    exact chain h1 (by omega) fun t' => rfl
  repeat (first | walk_at "s")
  refine s_for (fun j ρ t => ∃ x2 x3 x4 x5 x6 x7 x8 x9, ρ = eL x2 x3 x4 x5 x6 x7 x8 x9 ∧ TrOk (1 + 20000 * j) t) ?_
  repeat (first | walk_at "s")
  refine ⟨by omega, ⟨_, _, _, _, _, _, _, _, rfl, h1.mono (by omega)⟩, ?_, ?_⟩
  · rintro j d ρ t hj ⟨x2, x3, x4, x5, x6, x7, x8, x9, rfl, ht⟩
    obtain ⟨k, hk, rfl⟩ := natsD_at hj
    have hjl := range_at hk
    have hj7 : ((7 : Int).toNat) = 7 := rfl
    refine ex_env rfl ?_
    exact turn ht (by omega) fun x3 x4 x5 x6 x7 x8 x9 t' ht' => ⟨_, _, _, _, _, _, _, _, rfl, ht'.mono (by omega)⟩
  · rintro ρ t ⟨x2, x3, x4, x5, x6, x7, x8, x9, rfl, ht⟩
    repeat (first | walk_at "s")
    exact rfl
theorem hlaw : ∀ ns : List Int, ns.length ≤ 63 → (∀ z ∈ ns, Builtin.Int.intBits z ≤ 1048576) → ∃ t0, f__law_bag ns = some (trD "far" t0) ∧ ∃ t', m_law (entryL 10 1) t0 = some (.rt (.bool true), t') := fun ns hl hb => by
  obtain ⟨t0, e, h⟩ := BA.bag ns hl hb
  exact ⟨t0, e, law_ok h⟩
end Mi.K18
open PySem PySem.W PyProof.Rows
set_option maxRecDepth 100000 in
set_option maxHeartbeats 0 in
theorem PySem.Challenge.cw_carryladder_k18_whole_neat_programs_holds : PySem.Challenge.rw_carryladder_k18_whole_neat_programs.Holds := by
  w_on; o_law; k_head; (case hw => w_witness2)
  k_fill
  refine Mi.walk_law (l := PySem.Challenge.rw_carryladder_k18_whole_neat_programs) (n := 63) (k := 6) (x := "script") rfl (by decide) rfl ⟨rfl, by decide, by decide⟩ (fun w h Y => PySem.W.kIn_of Y) ?F
  case F =>
    intro w mg fa h KX G hmg
    refine' Mi.K18.all_mk KX G hmg ?a0 ?l0 ?c0 ?k0 ?a1 ?l1 ?c1 ?k1 ?a2 ?l2 ?c2 ?k2 ?a3 ?l3 ?c3 ?k3 ?a4 ?l4 ?c4 ?k4 ?a5 ?l5 ?c5 ?k5 ?a6 ?l6 ?c6 ?k6 ?a7 ?l7 ?c7 ?k7 ?a8 ?l8 ?c8 ?k8 ?a9 ?l9 ?c9 ?k9 ?a10 ?l10 ?c10 ?k10 ?a11 ?l11 ?c11 ?k11 ?a12 ?l12 ?c12 ?k12 ?a13 ?l13 ?c13 ?k13 ?a14 ?l14 ?c14 ?k14 ?a15 ?l15 ?c15 ?k15 ?a16 ?l16 ?c16 ?k16 ?a17 ?l17 ?c17 ?k17 ?a18 ?l18 ?c18 ?k18 ?a19 ?l19 ?c19 ?k19 ?a20 ?l20 ?c20 ?k20 ?a21 ?l21 ?c21 ?k21 ?a22 ?l22 ?c22 ?k22 ?a23 ?l23 ?c23 ?k23 ?a24 ?l24 ?c24 ?k24 ?a25 ?l25 ?c25 ?k25 ?a26 ?l26 ?c26 ?k26 ?z_tuple ?z_len ?z_reversed ?z_range ?z_list ?z_sum ?z_abs ?z_int ?z_isinstance ?z_str ?z_min ?z_sorted ?z_enumerate ?z_dict ?z_max ?z_repr Mi.K18.hlaw
    (case a0 => k_is)
    (case l0 => k_is)
    (case c0 => k_is)
    (case k0 => k_is)
    (case a1 => k_is)
    (case l1 => k_is)
    (case c1 => k_is)
    (case k1 => k_is)
    (case a2 => k_is)
    (case l2 => k_is)
    (case c2 => k_is)
    (case k2 => k_is)
    (case a3 => k_is)
    (case l3 => k_is)
    (case c3 => k_is)
    (case k3 => k_is)
    (case a4 => k_is)
    (case l4 => k_is)
    (case c4 => k_is)
    (case k4 => k_is)
    (case a5 => k_is)
    (case l5 => k_is)
    (case c5 => k_is)
    (case k5 => k_is)
    (case a6 => k_is)
    (case l6 => k_is)
    (case c6 => k_is)
    (case k6 => k_is)
    (case a7 => k_is)
    (case l7 => k_is)
    (case c7 => k_is)
    (case k7 => k_is)
    (case a8 => k_is)
    (case l8 => k_is)
    (case c8 => k_is)
    (case k8 => k_is)
    (case a9 => k_is)
    (case l9 => k_is)
    (case c9 => k_is)
    (case k9 => k_is)
    (case a10 => k_is)
    (case l10 => k_is)
    (case c10 => k_is)
    (case k10 => k_is)
    (case a11 => k_is)
    (case l11 => k_is)
    (case c11 => k_is)
    (case k11 => k_is)
    (case a12 => k_is)
    (case l12 => k_is)
    (case c12 => k_is)
    (case k12 => k_is)
    (case a13 => k_is)
    (case l13 => k_is)
    (case c13 => k_is)
    (case k13 => k_is)
    (case a14 => k_is)
    (case l14 => k_is)
    (case c14 => k_is)
    (case k14 => k_is)
    (case a15 => k_is)
    (case l15 => k_is)
    (case c15 => k_is)
    (case k15 => k_is)
    (case a16 => k_is)
    (case l16 => k_is)
    (case c16 => k_is)
    (case k16 => k_is)
    (case a17 => k_is)
    (case l17 => k_is)
    (case c17 => k_is)
    (case k17 => k_is)
    (case a18 => k_is)
    (case l18 => k_is)
    (case c18 => k_is)
    (case k18 => k_is)
    (case a19 => k_is)
    (case l19 => k_is)
    (case c19 => k_is)
    (case k19 => k_is)
    (case a20 => k_is)
    (case l20 => k_is)
    (case c20 => k_is)
    (case k20 => k_is)
    (case a21 => k_is)
    (case l21 => k_is)
    (case c21 => k_is)
    (case k21 => k_is)
    (case a22 => k_is)
    (case l22 => k_is)
    (case c22 => k_is)
    (case k22 => k_is)
    (case a23 => k_is)
    (case l23 => k_is)
    (case c23 => k_is)
    (case k23 => k_is)
    (case a24 => k_is)
    (case l24 => k_is)
    (case c24 => k_is)
    (case k24 => k_is)
    (case a25 => k_is)
    (case l25 => k_is)
    (case c25 => k_is)
    (case k25 => k_is)
    (case a26 => k_is)
    (case l26 => k_is)
    (case c26 => k_is)
    (case k26 => k_is)
    (case z_tuple => k_is)
    (case z_len => k_is)
    (case z_reversed => k_is)
    (case z_range => k_is)
    (case z_list => k_is)
    (case z_sum => k_is)
    (case z_abs => k_is)
    (case z_int => k_is)
    (case z_isinstance => k_is)
    (case z_str => k_is)
    (case z_min => k_is)
    (case z_sorted => k_is)
    (case z_enumerate => k_is)
    (case z_dict => k_is)
    (case z_max => k_is)
    (case z_repr => k_is)
