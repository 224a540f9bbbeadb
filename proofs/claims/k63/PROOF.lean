import PyProof.Rows.All
import HandS.ForMost
import HandS.Zip
import HandS.IsInst
import HandS.Wide
import HandS.TupAny
import HandS.TupMul
import HandS.Flow
import HandS.StrMore
import HandS.RaiseMore
import HandS.Conv
import HandS.EndBits
import PyProof.ReprRoads
import HandS.Style
import KE.DataEq
import PyProof.Rows.StrFin3
import KE.GoesZip
import KE.GoesMore
import KE.GoesEnum
import PyProof.Rows.Digits
import PyProof.StrReplace2
import PyProof.StrLawsRepr
import PySem.Challenge.RW_everycount_k63_texts_of_programs
import HandS.Evl
import HandS.Ends
import Wide.All
import OpenK.AllK
import Wide.FinOn
set_option Elab.async false
set_option linter.all false
set_option maxRecDepth 100000
set_option maxHeartbeats 4000000
namespace Ev
open PySem PySem.Spec PyProof.Rows L2

/-! ### data at an abstract heap -/
mutual
inductive Dq (H : Hp) : V → PyData → Prop
  | non : Dq H .non .none
  | bl (b : Bool) : Dq H (.bl b) (.bool b)
  | int (i : Int) : Dq H (.int i) (.int i)
  | str (x : Str) : Dq H (.str x) (.str x)
  | lst {a : Addr} {vs : List V} {ds : List PyData} : H a = some (.lst vs) → DqA H vs ds → Dq H (.ref a) (.list ds)
  | tup {a : Addr} {vs : List V} {ds : List PyData} : H a = some (.tup vs) → DqA H vs ds → Dq H (.ref a) (.tuple ds)
inductive DqA (H : Hp) : List V → List PyData → Prop
  | nil : DqA H [] []
  | cons {v : V} {vs : List V} {d : PyData} {ds : List PyData} : Dq H v d → DqA H vs ds → DqA H (v :: vs) (d :: ds)
end
mutual
theorem Dq.same {H H' : Hp} (e : Same H H') : ∀ {v : V} {d : PyData}, Dq H v d → Dq H' v d
  | _, _, .non => .non
  | _, _, .bl b => .bl b
  | _, _, .int i => .int i
  | _, _, .str x => .str x
  | _, _, .lst h q => .lst (e _ _ h) (DqA.same e q)
  | _, _, .tup h q => .tup (e _ _ h) (DqA.same e q)
theorem DqA.same {H H' : Hp} (e : Same H H') : ∀ {v : List V} {d : List PyData}, DqA H v d → DqA H' v d
  | _, _, .nil => .nil
  | _, _, .cons h q => .cons (Dq.same e h) (DqA.same e q)
end
mutual
theorem Dq.dp {K : PySem.W.Frag} {H : Hp} : ∀ {v : V} {d : PyData}, Dq H v d → Dp K H v d
  | _, _, .non => .non
  | _, _, .bl b => .bl b
  | _, _, .int i => .int i
  | _, _, .str x => .str x
  | _, _, .lst h q => .lst (SqL.of h) (DqA.dp q)
  | _, _, .tup h q => .tup (SqT.of h) (DqA.dp q)
theorem DqA.dp {K : PySem.W.Frag} {H : Hp} : ∀ {v : List V} {d : List PyData}, DqA H v d → DpAll K H v d
  | _, _, .nil => .nil
  | _, _, .cons h q => .cons (Dq.dp h) (DqA.dp q)
end
theorem DqA.len {H : Hp} : ∀ {v : List V} {d : List PyData}, DqA H v d → v.length = d.length
  | _, _, .nil => rfl
  | _, _, .cons _ q => congrArg (· + 1) (DqA.len q)
theorem DqA.get {H : Hp} : ∀ {vs : List V} {ds : List PyData} {i : Nat} {d : PyData}, DqA H vs ds → ds[i]? = some d → ∃ v, vs[i]? = some v ∧ Dq H v d
  | _, _, _, _, .nil, e => by simp at e
  | _, _, 0, _, .cons h _, e => by simp at e; subst e; exact ⟨_, rfl, h⟩
  | _, _, i + 1, _, .cons _ q, e => by
    obtain ⟨v, h1, h2⟩ := DqA.get (i := i) q (by simpa using e)
    exact ⟨v, by simpa using h1, h2⟩
theorem DqA.getV {H : Hp} : ∀ {vs : List V} {ds : List PyData} {i : Nat} {v : V}, DqA H vs ds → vs[i]? = some v → ∃ d, ds[i]? = some d ∧ Dq H v d
  | _, _, _, _, .nil, e => by simp at e
  | _, _, 0, _, .cons h _, e => by simp at e; subst e; exact ⟨_, rfl, h⟩
  | _, _, i + 1, _, .cons _ q, e => by
    obtain ⟨v, h1, h2⟩ := DqA.getV (i := i) q (by simpa using e)
    exact ⟨v, by simpa using h1, h2⟩
theorem DqA.app {H : Hp} : ∀ {vs us : List V} {ds es : List PyData}, DqA H vs ds → DqA H us es → DqA H (vs ++ us) (ds ++ es)
  | _, _, _, _, .nil, q => q
  | _, _, _, _, .cons h r, q => .cons h (DqA.app r q)
theorem DqA.drop {H : Hp} : ∀ {vs : List V} {ds : List PyData} (n : Nat), DqA H vs ds → DqA H (vs.drop n) (ds.drop n)
  | _, _, 0, h => h
  | _, _, _ + 1, .nil => .nil
  | _, _, n + 1, .cons _ q => DqA.drop n q
theorem DqA.take {H : Hp} : ∀ {vs : List V} {ds : List PyData} (n : Nat), DqA H vs ds → DqA H (vs.take n) (ds.take n)
  | _, _, 0, h => .nil
  | _, _, _ + 1, .nil => .nil
  | _, _, n + 1, .cons h q => .cons h (DqA.take n q)
theorem DqA.set {H : Hp} {v : V} {d : PyData} (r : Dq H v d) : ∀ {vs : List V} {ds : List PyData} (i : Nat), DqA H vs ds → DqA H (vs.set i v) (ds.set i d)
  | _, _, _, .nil => .nil
  | _, _, 0, .cons _ t => .cons r t
  | _, _, i + 1, .cons q t => .cons q (DqA.set r i t)
theorem DqA.rep {H : Hp} {vs : List V} {ds : List PyData} (h : DqA H vs ds) : ∀ n : Nat, DqA H (List.replicate n vs).flatten (List.replicate n ds).flatten
  | 0 => .nil
  | n + 1 => by
    rw [List.replicate_succ, List.replicate_succ, List.flatten_cons, List.flatten_cons]
    exact h.app (DqA.rep h n)

/-! ### the deck, hidden addresses, the state -/
structure Gd where
  dk : Addr
  c : Addr
  cells : List Int
  /-- hidden from the def: the deck, lists of those that called it -/
  h : Addr → Option Nat
  hdk : (h dk).isSome
theorem Gd.ne {g : Gd} {a : Addr} (q : g.h a = none) : a ≠ g.dk := fun z => by
  have := g.hdk
  rw [← z, q] at this
  cases this
/-- all but the deck stands -/
def Ed (dk : Addr) (H H' : Hp) : Prop := ∀ a o, a ≠ dk → H a = some o → H' a = some o
theorem Ed.refl (dk : Addr) (H : Hp) : Ed dk H H := fun _ _ _ h => h
theorem Ed.trans {dk : Addr} {H H1 H2 : Hp} (a : Ed dk H H1) (b : Ed dk H1 H2) : Ed dk H H2 := fun x o n h => b x o n (a x o n h)
theorem Ed.of {dk : Addr} {H H' : Hp} (a : Same H H') : Ed dk H H' := fun x o _ h => a x o h
theorem same_new {H : Hp} {p : Addr} (o : HO) (h : H p = none) : Same H (upd H p o) := fun b u q => by
  rw [upd_ne (ne_of_none q h)]
  exact q
def hw (w : Addr → Option Nat) (H : Hp) : Hp := fun a => if (w a).isSome then none else H a
def w0 (dk : Addr) : Addr → Option Nat := fun a => if a = dk then some 0 else none
theorem hw_some {w : Addr → Option Nat} {H : Hp} {a : Addr} {o : HO} : hw w H a = some o ↔ w a = none ∧ H a = some o := by
  unfold hw
  cases w a <;> simp
theorem hw_ed {w : Addr → Option Nat} {dk : Addr} {H H' : Hp} (h : (w dk).isSome) (e : Ed dk H H') : Same (hw w H) (hw w H') := fun a o q => by
  obtain ⟨q1, q2⟩ := hw_some.mp q
  refine hw_some.mpr ⟨q1, e a o (fun z => ?_) q2⟩
  subst z
  rw [q1] at h
  cases h
theorem w0_none {dk a : Addr} : w0 dk a = none ↔ a ≠ dk := by
  unfold w0
  by_cases h : a = dk <;> simp [h]
theorem w0_dk {dk : Addr} : (w0 dk dk).isSome := by simp [w0]
theorem h0_ed {g : Gd} {H H' : Hp} (e : Ed g.dk H H') : Same (hw g.h H) (hw g.h H') := hw_ed g.hdk e
theorem hw_same {w : Addr → Option Nat} {H H' : Hp} (e : Same H H') : Same (hw w H) (hw w H') := fun a o q => by
  obtain ⟨q1, q2⟩ := hw_some.mp q
  exact hw_some.mpr ⟨q1, e _ _ q2⟩
theorem hw_h0 {w h : Addr → Option Nat} {H : Hp} (e : ∀ a, (h a).isSome → (w a).isSome) : Same (hw w H) (hw h H) := fun a o q => by
  obtain ⟨q1, q2⟩ := hw_some.mp q
  refine hw_some.mpr ⟨?_, q2⟩
  cases z : h a with
  | none => rfl
  | some i =>
    have := e a (by rw [z]; rfl)
    rw [q1] at this
    cases this
/-- what is hidden is lists -/
def Hid (h : Addr → Option Nat) (H : Hp) : Prop := ∀ a, (h a).isSome → ∃ vs, H a = some (.lst vs)
theorem Hid.none {h : Addr → Option Nat} {H : Hp} (k : Hid h H) {a : Addr} (q : H a = none) : h a = none := by
  cases z : h a with
  | none => rfl
  | some i =>
    obtain ⟨vs, e⟩ := k a (by rw [z]; rfl)
    rw [q] at e
    cases e
theorem Hid.same {h : Addr → Option Nat} {H H' : Hp} (k : Hid h H) (e : Same H H') : Hid h H' := fun a q => let ⟨vs, z⟩ := k a q; ⟨vs, e _ _ z⟩
theorem hw_sub {w : Addr → Option Nat} {H : Hp} : Same (hw w H) H := fun a o q => (hw_some.mp q).2

def Deck (g : Gd) (n : Nat) (H : Hp) : Prop := g.c ≠ g.dk ∧ g.cells.length ≤ 63 ∧ H g.c = some (.lst (g.cells.map V.int)) ∧
  ∃ p q : Int, 0 ≤ q ∧ H g.dk = some (.lst [.ref g.c, .int p, .int q, .int n])
theorem Deck.same {g : Gd} {n : Nat} {H H' : Hp} (h : Deck g n H) (e : Same H H') : Deck g n H' := by
  obtain ⟨h1, h2, h3, p, q, h4, h5⟩ := h
  exact ⟨h1, h2, e _ _ h3, p, q, h4, e _ _ h5⟩

/-- what a slot holds: data, a list of the def's own, the deck, anything -/
inductive S where
  | d (x : PyData)
  | own (xs : List PyData)
  | dk
  | un

def SlotOk (g : Gd) (H : Hp) (w : Addr → Option Nat) (i : Nat) (σi : Option (Option V)) : S → Prop
  | .d x => ∃ v, σi = some (some v) ∧ Dq (hw w H) v x
  | .own xs => ∃ a vs, σi = some (some (.ref a)) ∧ w a = some i ∧ g.h a = none ∧ H a = some (.lst vs) ∧ DqA (hw w H) vs xs
  | .dk => σi = some (some (.ref g.dk))
  | .un => True

structure Ok (g : Gd) (H0 : Hp) (σ : L2.St) (H : Hp) (ss : List S) (n : Nat) (w : Addr → Option Nat) : Prop where
  len : ss.length = σ.length
  ed : Ed g.dk H0 H
  deck : Deck g n H
  ext : ∀ a, (g.h a).isSome → (w a).isSome
  hx : Hid g.h H0
  hid : ∀ a, (w a).isSome → (g.h a).isSome ∨ (H0 a = none ∧ a ≠ g.c ∧ ∃ i xs, w a = some i ∧ ss[i]? = some (.own xs) ∧ σ[i]? = some (some (.ref a)))
  sl : ∀ i s, ss[i]? = some s → SlotOk g H w i σ[i]? s

section
variable {g : Gd} {H0 H H' : Hp} {σ : L2.St} {ss : List S} {n n' : Nat} {w : Addr → Option Nat}
theorem Ok.wdk (k : Ok g H0 σ H ss n w) : (w g.dk).isSome := k.ext _ g.hdk
theorem Deck.hid {g : Gd} {n : Nat} {H0 H : Hp} (d : Deck g n H) (k : Hid g.h H0) (e : Ed g.dk H0 H) : Hid g.h H := fun a q => by
  by_cases z : a = g.dk
  · subst z
    obtain ⟨_, _, _, _, _, _, r⟩ := d
    exact ⟨_, r⟩
  · obtain ⟨vs, r⟩ := k a q
    exact ⟨vs, e _ _ z r⟩
theorem Ok.hd (k : Ok g H0 σ H ss n w) : Hid g.h H := k.deck.hid k.hx k.ed
theorem Ok.step (k : Ok g H0 σ H ss n w) (e : Ed g.dk H H') (d : Deck g n' H') : Ok g H0 σ H' ss n' w := by
  refine ⟨k.len, k.ed.trans e, d, k.ext, k.hx, k.hid, fun i s hs => ?_⟩
  have q := k.sl i s hs
  cases s with
  | d x => obtain ⟨v, h1, h2⟩ := q; exact ⟨v, h1, h2.same (hw_ed k.wdk e)⟩
  | own xs => obtain ⟨a, vs, h1, h2, h3, h4, h5⟩ := q; exact ⟨a, vs, h1, h2, h3, e _ _ (Gd.ne h3) h4, h5.same (hw_ed k.wdk e)⟩
  | dk => exact q
  | un => trivial
theorem Ok.same (k : Ok g H0 σ H ss n w) (e : Same H H') : Ok g H0 σ H' ss n w := k.step (Ed.of e) (k.deck.same e)
/-- a free place is not hidden -/
theorem Ok.free (k : Ok g H0 σ H ss n w) {p : Addr} (h : H p = none) : w p = none := by
  cases q : w p with
  | none => rfl
  | some i =>
    rcases k.hid p (by rw [q]; rfl) with z | ⟨_, _, j, xs, h1, h2, h3⟩
    · obtain ⟨vs, z⟩ := k.hd p z
      rw [h] at z
      cases z
    · obtain ⟨a, vs, e1, _, _, e2, _⟩ := k.sl j _ h2
      rw [h3] at e1
      cases e1
      rw [h] at e2
      cases e2
/-- a slot's value, as data -/
theorem Ok.var (k : Ok g H0 σ H ss n w) {i : Nat} {x : PyData} (h : ss[i]? = some (.d x)) : ∃ v, σ[i]? = some (some v) ∧ Dq (hw w H) v x := k.sl i _ h
theorem Ok.varL (k : Ok g H0 σ H ss n w) {i : Nat} {xs : List PyData} (h : ss[i]? = some (.own xs)) : ∃ v, σ[i]? = some (some v) ∧ Dq (hw g.h H) v (.list xs) := by
  obtain ⟨a, vs, h1, h2, h3, h4, h5⟩ := k.sl i _ h
  exact ⟨_, h1, .lst (hw_some.mpr ⟨h3, h4⟩) (h5.same (hw_h0 k.ext))⟩
end

/-! ### what is behind an expression, told of data -/
abbrev DQ := PyData → Nat → Prop
abbrev DE := List S → Nat → DQ → Prop
abbrev DT := List S → Nat → (Bool → Nat → Prop) → Prop
/-- an argument: data or the deck -/
inductive W where
  | d (x : PyData)
  | dk
abbrev DA := List S → Nat → (List W → Nat → Prop) → Prop
def WOk (g : Gd) (H : Hp) (v : V) : W → Prop
  | .d x => Dq (hw g.h H) v x
  | .dk => v = .ref g.dk
theorem WOk.ed {g : Gd} {H H' : Hp} {v : V} {a : W} (h : WOk g H v a) (e : Ed g.dk H H') : WOk g H' v a := by
  cases a with
  | d x => exact Dq.same (h0_ed e) h
  | dk => exact h
inductive WsOk (g : Gd) (H : Hp) : List V → List W → Prop
  | nil : WsOk g H [] []
  | cons {v : V} {vs : List V} {a : W} {as : List W} : WOk g H v a → WsOk g H vs as → WsOk g H (v :: vs) (a :: as)
theorem WsOk.len {g : Gd} {H : Hp} : ∀ {vs : List V} {as : List W}, WsOk g H vs as → vs.length = as.length
  | _, _, .nil => rfl
  | _, _, .cons _ q => congrArg (· + 1) (WsOk.len q)
theorem WsOk.ed {g : Gd} {H H' : Hp} (e : Ed g.dk H H') : ∀ {vs : List V} {as : List W}, WsOk g H vs as → WsOk g H' vs as
  | _, _, .nil => .nil
  | _, _, .cons h q => .cons (h.ed e) (WsOk.ed e q)

def Lf (t : TE) (p : DE) : Prop := ∀ (g : Gd) (H0 : Hp) (σ : L2.St) (H : Hp) (ss : List S) (n : Nat) (w : Addr → Option Nat) (Q : VK) (Q1 : DQ), Ok g H0 σ H ss n w → p ss n Q1 →
  (∀ d n' v H', Q1 d n' → Ed g.dk H H' → Ok g H0 σ H' ss n' w → Dq (hw g.h H') v d → Q v H') → t σ H Q
def LfT (t : TT) (p : DT) : Prop := ∀ (g : Gd) (H0 : Hp) (σ : L2.St) (H : Hp) (ss : List S) (n : Nat) (w : Addr → Option Nat) (Q : Bool → Hp → Prop) (Q1 : Bool → Nat → Prop), Ok g H0 σ H ss n w → p ss n Q1 →
  (∀ b n' H', Q1 b n' → Ed g.dk H H' → Ok g H0 σ H' ss n' w → Q b H') → t σ H Q
def LfA (t : TA) (p : DA) : Prop := ∀ (g : Gd) (H0 : Hp) (σ : L2.St) (H : Hp) (ss : List S) (n : Nat) (w : Addr → Option Nat) (Q : List V → Hp → Prop) (Q1 : List W → Nat → Prop), Ok g H0 σ H ss n w → p ss n Q1 →
  (∀ as n' vs H', Q1 as n' → Ed g.dk H H' → Ok g H0 σ H' ss n' w → WsOk g H' vs as → Q vs H') → t σ H Q

structure PL (X : Cx) (e : Expr) (t : TE) (p : DE) : Prop where
  pe : PE X e t
  lf : Lf t p
structure PLT (X : Cx) (e : Expr) (t : TT) (p : DT) : Prop where
  pt : PT X e t
  lf : LfT t p
structure PLW (X : Cx) (e : Expr) (t : TT) (p : DT) : Prop where
  pw : PW X e t
  lf : LfT t p
structure PLA (X : Cx) (es : List Expr) (t : TA) (p : DA) : Prop where
  pa : PA X es t
  lf : LfA t p
theorem PLW.t {X : Cx} {e : Expr} {t : TT} {p : DT} (h : PLW X e t p) : PLT X e t p := ⟨h.pw.pt, h.lf⟩

section
variable {X : Cx} {e a b c : Expr} {es : List Expr} {t ta tb tc : TE} {tt tu : TT} {tA : TA} {p pa pb pc : DE} {pt pu : DT} {pA : DA} {pos : Pos}

def dVar (i : Nat) : DE := fun ss n Q => match ss[i]? with | some (.d x) => Q x n | some (.own xs) => Q (.list xs) n | _ => False
theorem lf_var (i : Nat) : Lf (tVar i) (dVar i) := fun g H0 σ H ss n w Q Q1 k h q => by
  unfold dVar at h
  split at h
  · rename_i x e
    obtain ⟨v, h1, h2⟩ := k.var e
    exact ⟨v, h1, q _ _ _ _ h (Ed.refl _ _) k (h2.same (hw_h0 k.ext))⟩
  · rename_i xs e
    obtain ⟨v, h1, h2⟩ := k.varL e
    exact ⟨v, h1, q _ _ _ _ h (Ed.refl _ _) k h2⟩
  · exact h.elim
theorem lv (i : Nat) {x : Str} (hN : X.N[i]? = some x := by rfl) (hv : Vis X.env.scope x := by first | exact Or.inl rfl | exact Or.inr (Or.inl rfl) | exact Or.inr (Or.inr rfl)) (hd : (x == ("__debug__" : Str)) = false := by decide)
    (hcd : (x == ("__classdict__" : Str)) = false := by decide) : PL X (.Name x pos) (tVar i) (dVar i) := ⟨pe_var hN hv hd hcd, lf_var i⟩

def dC (d : PyData) : DE := fun _ n Q => Q d n
theorem lf_c {v : V} {d : PyData} (h : ∀ H, Dq H v d) : Lf (tC v) (dC d) := fun g H0 σ H ss n w Q Q1 k hp q => q _ _ _ _ hp (Ed.refl _ _) k (h _)
theorem l_int {i : Int} {k : Nat} : PL X (.Constant (.int i) k pos) (tC (.int i)) (dC (.int i)) := ⟨pe_int, lf_c fun _ => .int i⟩
end
end Ev

namespace Ev
open PySem PySem.Spec PyProof.Rows L2

abbrev DP := (PyData → Prop) → Prop
/-- an operation of two values, told of data -/
def LR (r : R2) (q : PyData → PyData → DP) : Prop := ∀ (hh : Addr → Option Nat) (H : Hp) (x y : V) (d e : PyData) (Q : VK) (Q1 : PyData → Prop), Hid hh H → Dq (hw hh H) x d → Dq (hw hh H) y e → q d e Q1 →
  (∀ z H' f, Q1 f → Same H H' → Dq (hw hh H') z f → Q z H') → r x y H Q
/-- a call of a built-in with data -/
def LC (r : List V → Hp → VK → Prop) (q : List PyData → DP) : Prop := ∀ (hh : Addr → Option Nat) (H : Hp) (xs : List V) (ds : List PyData) (Q : VK) (Q1 : PyData → Prop), Hid hh H → DqA (hw hh H) xs ds → q ds Q1 →
  (∀ z H' f, Q1 f → Same H H' → Dq (hw hh H') z f → Q z H') → r xs H Q
theorem ne_dk {g : Gd} {n : Nat} {H : Hp} (h : Deck g n H) : H g.dk ≠ none := fun z => by
  obtain ⟨_, _, _, _, _, _, q⟩ := h
  rw [z] at q
  cases q
theorem hw_new {hh : Addr → Option Nat} {p : Addr} {H : Hp} {o : HO} (h : Hid hh H) (hp : H p = none) : hw hh (upd H p o) p = some o := hw_some.mpr ⟨h.none hp, upd_same⟩
theorem new_tup {hh : Addr → Option Nat} {H : Hp} (h : Hid hh H) {vs : List V} {ds : List PyData} (q : DqA (hw hh H) vs ds) {p : Addr} (hp : H p = none) : Same H (upd H p (.tup vs)) ∧ Dq (hw hh (upd H p (.tup vs))) (.ref p) (.tuple ds) :=
  ⟨same_new _ hp, .tup (hw_new h hp) (q.same (hw_same (same_new _ hp)))⟩
theorem new_lst {hh : Addr → Option Nat} {H : Hp} (h : Hid hh H) {vs : List V} {ds : List PyData} (q : DqA (hw hh H) vs ds) {p : Addr} (hp : H p = none) : Same H (upd H p (.lst vs)) ∧ Dq (hw hh (upd H p (.lst vs))) (.ref p) (.list ds) :=
  ⟨same_new _ hp, .lst (hw_new h hp) (q.same (hw_same (same_new _ hp)))⟩
theorem hsub {w : Addr → Option Nat} {H : Hp} {a : Addr} {o : HO} (h : hw w H a = some o) : H a = some o := (hw_some.mp h).2

section
variable {X : Cx} {e a b c : Expr} {es : List Expr} {t ta tb tc : TE} {tt tu : TT} {tA : TA} {p pa pb pc : DE} {pt pu : DT} {pA : DA} {pos : Pos}
theorem l_str {i : Str} {k : Nat} : PL X (.Constant (.str i) k pos) (tC (.str i)) (dC (.str i)) := ⟨pe_str, lf_c fun _ => .str i⟩
theorem l_bl {i : Bool} {k : Nat} : PL X (.Constant (.bool i) k pos) (tC (.bl i)) (dC (.bool i)) := ⟨pe_bl, lf_c fun _ => .bl i⟩
theorem l_non {k : Nat} : PL X (.Constant .none k pos) (tC .non) (dC .none) := ⟨pe_non, lf_c fun _ => .non⟩

/-! two-place operations -/
def dOp (q : PyData → PyData → DP) (pa pb : DE) : DE := fun ss n Q => pa ss n fun d n1 => pb ss n1 fun e n2 => q d e fun f => Q f n2
theorem lf_op {r : R2} {q : PyData → PyData → DP} (hr : LR r q) (ha : Lf ta pa) (hb : Lf tb pb) : Lf (tOp r ta tb) (dOp q pa pb) := fun g H0 σ H ss n w Q Q1 k h hq =>
  ha g H0 σ H ss n w _ _ k h fun d n1 v H1 h1 e1 k1 r1 => hb g H0 σ H1 ss n1 w _ _ k1 h1 fun e n2 u H2 h2 e2 k2 r2 =>
    hr g.h H2 v u d e Q _ k2.hd (r1.same (h0_ed e2)) r2 h2 fun z H3 f h3 e3 r3 => hq f n2 z H3 h3 ((e1.trans e2).trans (Ed.of e3)) (k2.same e3) r3
theorem OpR.or {f : Value → Value → Sem Value} {r r' : R2} (h : OpR X f r) (h' : OpR X f r') : OpR X f (fun x y H Q => r x y H Q ∨ r' x y H Q) := fun pins s σ H x y v u Q I rx ry q =>
  q.elim (h pins s σ H x y v u Q I rx ry) (h' pins s σ H x y v u Q I rx ry)

def qAdd : PyData → PyData → DP := fun d e Q => match d, e with
  | .int i, .int j => Q (.int (i + j))
  | .str x, .str y => x.length + y.length ≤ sizeLine ∧ Q (.str (x ++ y))
  | .tuple xs, .tuple ys => xs.length + ys.length ≤ sizeLine ∧ Q (.tuple (xs ++ ys))
  | .list xs, .list ys => xs.length + ys.length ≤ sizeLine ∧ Q (.list (xs ++ ys))
  | _, _ => False
def rAdd' (K : PySem.W.Frag) : R2 := fun x y H Q => (((rI0 fun i j => V.int (i + j)) x y H Q ∨ (∃ i j, x = V.str i ∧ y = V.str j ∧ i.length + j.length ≤ sizeLine ∧ Q (V.str (i ++ j)) H)) ∨ rCatA K x y H Q) ∨ rCat x y H Q
theorem op_add' : OpR X (binaryOp .Add) (rAdd' X.K) := OpR.or (OpR.or (OpR.or op_add op_add_str) op_catA) op_cat
theorem lr_add {K : PySem.W.Frag} : LR (rAdd' K) qAdd := fun hh H x y d e Q Q1 hd hx hy h q => by
  cases hx with
  | int i =>
    cases hy with
    | int j => exact .inl (.inl (.inl ⟨i, j, rfl, rfl, q _ _ _ h (Same.refl H) (.int _)⟩))
    | _ => exact h.elim
  | str i =>
    cases hy with
    | str j => exact .inl (.inl (.inr ⟨i, j, rfl, rfl, h.1, q _ _ _ h.2 (Same.refl H) (.str _)⟩))
    | _ => exact h.elim
  | @tup a vs ds ha hA =>
    cases hy with
    | @tup b us es hb hB =>
      have l1 := hA.len
      have l2 := hB.len
      obtain ⟨h1, h2⟩ := h
      refine .inl (.inr ⟨a, b, vs, us, rfl, rfl, SqT.of (hsub ha), SqT.of (hsub hb), by omega, fun z => ?_, fun _ z => ?_, fun _ _ p hp => ?_⟩)
      · subst z
        cases hA
        exact q _ _ _ h2 (Same.refl H) (.tup hb hB)
      · subst z
        cases hB
        rw [List.append_nil] at h2
        exact q _ _ _ h2 (Same.refl H) (.tup ha hA)
      · obtain ⟨g1, g2⟩ := new_tup hd (hA.app hB) hp
        exact q _ _ _ h2 g1 g2
    | _ => exact h.elim
  | @lst a vs ds ha hA =>
    cases hy with
    | @lst b us es hb hB =>
      have l1 := hA.len
      have l2 := hB.len
      obtain ⟨h1, h2⟩ := h
      refine .inr ⟨a, b, vs, us, rfl, rfl, hsub ha, hsub hb, by omega, fun p hp => ?_⟩
      obtain ⟨g1, g2⟩ := new_lst hd (hA.app hB) hp
      exact q _ _ _ h2 g1 g2
    | _ => exact h.elim
  | _ => cases hy <;> exact h.elim
theorem l_add (ha : PL X a ta pa) (hb : PL X b tb pb) : PL X (.BinOp a .Add b pos) (tOp (rAdd' X.K) ta tb) (dOp qAdd pa pb) := ⟨pe_op op_add' ha.pe hb.pe, lf_op lr_add ha.lf hb.lf⟩

/-- ints alone -/
def qI (C : Int → Int → Prop) (g : Int → Int → PyData) : PyData → PyData → DP := fun d e Q => match d, e with
  | .int i, .int j => C i j ∧ Q (g i j)
  | _, _ => False
theorem lr_I {C : Int → Int → Prop} {f : Int → Int → V} {g : Int → Int → PyData} (hg : ∀ i j H, Dq H (f i j) (g i j)) : LR (rI C f) (qI C g) := fun hh H x y d e Q Q1 hd hx hy h q => by
  cases hx with
  | int i =>
    cases hy with
    | int j => exact ⟨i, j, rfl, rfl, h.1, q _ _ _ h.2 (Same.refl H) (hg _ _ _)⟩
    | _ => exact h.elim
  | _ => cases hy <;> exact h.elim
def qI0 (g : Int → Int → PyData) : PyData → PyData → DP := fun d e Q => match d, e with
  | .int i, .int j => Q (g i j)
  | _, _ => False
theorem lr_I0 {f : Int → Int → V} {g : Int → Int → PyData} (hg : ∀ i j H, Dq H (f i j) (g i j)) : LR (rI0 f) (qI0 g) := fun hh H x y d e Q Q1 hd hx hy h q => by
  cases hx with
  | int i =>
    cases hy with
    | int j => exact ⟨i, j, rfl, rfl, q _ _ _ h (Same.refl H) (hg _ _ _)⟩
    | _ => exact h.elim
  | _ => cases hy <;> exact h.elim
def qSub : PyData → PyData → DP := qI0 fun i j => .int (i - j)
def qDiv : PyData → PyData → DP := qI CDivW fun i j => .int (i / j)
def qMod : PyData → PyData → DP := qI (fun _ j => j ≠ 0) fun i j => .int (i.fmod j)
def qPow : PyData → PyData → DP := qI CPow fun i j => .int (i ^ j.toNat)
theorem l_sub (ha : PL X a ta pa) (hb : PL X b tb pb) : PL X (.BinOp a .Sub b pos) (tOp (rI0 fun i j => V.int (i - j)) ta tb) (dOp qSub pa pb) := ⟨pe_op op_sub ha.pe hb.pe, lf_op (lr_I0 fun _ _ _ => .int _) ha.lf hb.lf⟩
theorem l_div (ha : PL X a ta pa) (hb : PL X b tb pb) : PL X (.BinOp a .FloorDiv b pos) (tOp (rI CDivW fun i j => V.int (i / j)) ta tb) (dOp qDiv pa pb) := ⟨pe_op op_fdivW ha.pe hb.pe, lf_op (lr_I fun _ _ _ => .int _) ha.lf hb.lf⟩
theorem l_mod (ha : PL X a ta pa) (hb : PL X b tb pb) : PL X (.BinOp a .Mod b pos) (tOp (rI (fun _ j => j ≠ 0) fun i j => V.int (i.fmod j)) ta tb) (dOp qMod pa pb) := ⟨pe_op op_modN ha.pe hb.pe, lf_op (lr_I fun _ _ _ => .int _) ha.lf hb.lf⟩
theorem l_pow (ha : PL X a ta pa) (hb : PL X b tb pb) : PL X (.BinOp a .Pow b pos) (tOp (rI CPow fun i j => V.int (i ^ j.toNat)) ta tb) (dOp qPow pa pb) := ⟨pe_op op_pow ha.pe hb.pe, lf_op (lr_I fun _ _ _ => .int _) ha.lf hb.lf⟩

/-! the text so many times -/
def srep (x : Str) (n : Nat) : Str := ⟨(List.replicate n x.cps).foldl (· ++ ·) #[]⟩
theorem srep_zero (x : Str) : srep x 0 = Str.empty := rfl
theorem foldl_app_list : ∀ (l : List (Array Nat)) (z : Array Nat), (l.foldl (· ++ ·) z).toList = z.toList ++ (l.map Array.toList).flatten
  | [], z => by simp
  | y :: r, z => by
    rw [List.foldl_cons, foldl_app_list r (z ++ y), List.map_cons, List.flatten_cons, Array.toList_append, List.append_assoc]
theorem srep_list (x : Str) (n : Nat) : (srep x n).cps.toList = (List.replicate n x.cps.toList).flatten := by
  show ((List.replicate n x.cps).foldl (· ++ ·) #[]).toList = _
  rw [foldl_app_list]
  simp
theorem str_ext {x y : Str} (h : x.cps.toList = y.cps.toList) : x = y := by
  cases x
  cases y
  congr 1
  exact Array.toList_inj.mp h
def rRepS : R2 := fun x y H Q => ∃ z k, x = .str z ∧ y = .int k ∧ k < 2 ^ 63 ∧ -(2 ^ 63) ≤ k ∧ z.length * k.toNat ≤ sizeLine ∧ Q (.str (srep z k.toNat)) H
theorem str_len (x : Str) : x.length = x.cps.toList.length := by
  show x.cps.size = _
  simp
theorem op_repS : OpR X (binaryOp .Mult) rRepS := by
  intro pins s σ H x y v u Q I rx ry h
  obtain ⟨z, k, rfl, rfl, h1, h2, h3, q⟩ := h
  obtain ⟨t, rfl⟩ := rx
  obtain ⟨t', rfl⟩ := ry
  have hr : (decide (k < -(2 ^ 63 : Int)) || decide (k ≥ 2 ^ 63)) = false := by
    rw [decide_eq_false (by omega), decide_eq_false (by omega)]; rfl
  refine PySem.P.mul_str hr (fun g1 g2 => ?_) (fun g1 g2 => ?_) ?_
  · have hk : 0 < k := by omega
    intro hc
    have hz : (z.length : Int) * k ≤ sizeLine := by
      have e : ((z.length * k.toNat : Nat) : Int) = (z.length : Int) * k := by rw [Int.natCast_mul, Int.toNat_of_nonneg (by omega)]
      omega
    have hz2 : (sizeLine : Int) ≤ 2 ^ 63 - 1 := by decide
    have : (z.length : Int) ≤ (2 ^ 63 - 1) / k := (Int.le_ediv_iff_mul_le hk).mpr (by omega)
    omega
  · exact decide_eq_false (Nat.not_lt.mpr h3)
  · by_cases c1 : k < 1
    · rw [if_pos c1]
      have e : k.toNat = 0 := by omega
      rw [e] at q
      exact ⟨by decide, .str _, H, I.tok _, ⟨_, rfl⟩, q⟩
    · rw [if_neg c1]
      by_cases c2 : (k == 1 || z.length == 0) = true
      · rw [if_pos c2]
        have e : srep z k.toNat = z := by
          refine str_ext ?_
          rw [srep_list]
          rcases Bool.or_eq_true_iff.mp c2 with c | c
          · have : k = 1 := by simpa using c
            subst this
            simp
          · have hz : z.cps.toList = [] := List.eq_nil_of_length_eq_zero (by rw [← str_len]; simpa using c)
            rw [hz]
            simp
        rw [e] at q
        exact ⟨.str z, H, I, ⟨t, rfl⟩, q⟩
      · rw [if_neg c2]
        refine ⟨?_, .str _, H, I.tok _, ⟨_, rfl⟩, q⟩
        show (srep z k.toNat).length ≤ sizeLine
        rw [str_len, srep_list, List.length_flatten, List.map_replicate, List.sum_replicate_nat, ← str_len, Nat.mul_comm]
        exact h3
end
end Ev

namespace Ev
open PySem PySem.Spec PyProof.Rows L2
theorem tmul_one (l : Addr) (items : Array Value) (n : Nat) (dd : Option Addr) (sl : Array (Option Value)) (x : Int) (u : Tok) (c0 : (decide (x < -(2 ^ 63)) || decide (x ≥ 2 ^ 63)) = false) (c1 : (items.isEmpty || x == 1) = true) :
    Meets (Builtin.«tuple.__mul__» ⟨[.ref l, .int x u], []⟩) (fun _ R s => s.heap.get? l = some { cls := .type "tuple", dict := dd, data := .seq items n, slots := sl } ∧ R (.ok (.ret (.ref l))) s) :=
  .of_wp fun prog w A R s h => by
    obtain ⟨hp, g, d, tk, os⟩ := s
    obtain ⟨hl, h⟩ := h
    have f1 := AutoSeq1.idx_int
    wp_walk using wpAny_loadPart' hl
    repeat (first
      | (refine wpAny_ite_false (decide_eq_false (by rw [c0]; exact Bool.false_ne_true)) ?_; wp_walk using wpAny_loadPart' hl)
      | (refine wpAny_ite_true (decide_eq_true (by rw [c1])) ?_; wp_walk using wpAny_loadPart' hl))
    exact ⟨_, rfl, h⟩
theorem tmul_none (l : Addr) (items : Array Value) (n : Nat) (dd : Option Addr) (sl : Array (Option Value)) (x : Int) (u : Tok) (c0 : (decide (x < -(2 ^ 63)) || decide (x ≥ 2 ^ 63)) = false) (c1 : (items.isEmpty || x == 1) = false) (c2 : (decide (x ≤ 0) || items.isEmpty) = true) :
    Meets (Builtin.«tuple.__mul__» ⟨[.ref l, .int x u], []⟩) (fun _ R s => s.heap.get? l = some { cls := .type "tuple", dict := dd, data := .seq items n, slots := sl } ∧
      R (.ok (.ret (Value.ref s.heap.objs.size))) { s with heap := s.heap.push { cls := Value.type "tuple", data := Data.seq #[] }, toks := s.toks }) :=
  .of_wp fun prog w A R s h => by
    obtain ⟨hp, g, d, tk, os⟩ := s
    obtain ⟨hl, h⟩ := h
    have f1 := AutoSeq1.idx_int
    wp_walk using wpAny_loadPart' hl
    repeat (first
      | (refine wpAny_ite_false (decide_eq_false (by rw [c0]; exact Bool.false_ne_true)) ?_; wp_walk using wpAny_loadPart' hl)
      | (refine wpAny_ite_false (decide_eq_false (by rw [c1]; exact Bool.false_ne_true)) ?_; wp_walk using wpAny_loadPart' hl)
      | (refine wpAny_ite_true (decide_eq_true (by rw [c2])) ?_; wp_walk using wpAny_loadPart' hl))
    exact ⟨_, rfl, h⟩
/-- a tuple at most once: itself, or a new empty one -/
def rRepU (K : PySem.W.Frag) : R2 := fun x y H Q => ∃ l k xs, x = .ref l ∧ y = .int k ∧ SqT K H l xs ∧ -1000 ≤ k ∧ k ≤ 1000 ∧ ((xs = [] ∨ k = 1) ∧ Q (.ref l) H ∨ (xs ≠ [] ∧ k ≤ 0 ∧ ∀ p, H p = none → Q (.ref p) (upd H p (.tup []))))
section
variable {X : Cx} {e a b c : Expr} {es : List Expr} {t ta tb tc : TE} {tt tu : TT} {tA : TA} {p pa pb pc : DE} {pt pu : DT} {pA : DA} {pos : Pos}
theorem op_repU : OpR X (binaryOp .Mult) (rRepU X.K) := by
  intro pins s σ H x y v u Q I rx ry h
  obtain ⟨l, k, xs, rfl, rfl, hT, h1, h2, h⟩ := h
  cases rx
  obtain ⟨t, rfl⟩ := ry
  obtain ⟨its, r, ⟨⟨cls, dd, data, sl⟩, ho, hc, n, hd⟩, hs⟩ := I.tuple hT
  simp only at hc hd
  subst hc hd
  have hle : its.length = xs.length := r.length.symm
  have c0 : (decide (k < -(2 ^ 63)) || decide (k ≥ 2 ^ 63)) = false := by
    rw [decide_eq_false (by omega), decide_eq_false (by omega)] <;> rfl
  rcases h with ⟨h, q⟩ | ⟨hne, hk, q⟩
  · have c1 : (its.toArray.isEmpty || k == 1) = true := by
      rcases h with h | h
      · subst h
        cases its with
        | nil => rfl
        | cons a b => simp at hle
      · subst h
        simp
    exact wpAny_binaryOp_repeat_ref (T := "tuple") (U := "int") (by decide) ⟨_, ho, rfl⟩ (fun s' => typeIs_int s' k t) noFill_tuple_mul F.fills_int_mul F.slot_int_rmul repeat_tuple F.slot_int_index.lookup
      (call_meets F.slot_int_rmul (typeIs_int s k t) F.entry_int_rmul (F.args_int_rmul_2 _ _) (int_rmul_tuple k t l its.toArray n dd sl)
        ⟨ho, rfl, ⟨_, ho, rfl⟩, call_meets F.slot_tuple_mul ⟨_, ho, rfl⟩ F.entry_tuple_mul (F.args_tuple_mul_2 _ _) (tmul_one l its.toArray n dd sl k t c0 c1) ⟨ho, .ref l, H, I, rfl, q⟩⟩)
  · have hi : its.toArray.isEmpty = false := by
      cases its with
      | nil => exact absurd (List.eq_nil_of_length_eq_zero hle.symm) hne
      | cons a b => rfl
    have c1 : (its.toArray.isEmpty || k == 1) = false := by
      rw [hi, Bool.false_or]
      exact beq_eq_false_iff_ne.mpr (by omega)
    have c2 : (decide (k ≤ 0) || its.toArray.isEmpty) = true := by
      rw [hi, Bool.or_false]
      exact decide_eq_true hk
    exact wpAny_binaryOp_repeat_ref (T := "tuple") (U := "int") (by decide) ⟨_, ho, rfl⟩ (fun s' => typeIs_int s' k t) noFill_tuple_mul F.fills_int_mul F.slot_int_rmul repeat_tuple F.slot_int_index.lookup
      (call_meets F.slot_int_rmul (typeIs_int s k t) F.entry_int_rmul (F.args_int_rmul_2 _ _) (int_rmul_tuple k t l its.toArray n dd sl)
        ⟨ho, rfl, ⟨_, ho, rfl⟩, call_meets F.slot_tuple_mul ⟨_, ho, rfl⟩ F.entry_tuple_mul (F.args_tuple_mul_2 _ _) (tmul_none l its.toArray n dd sl k t c0 c1 c2)
          ⟨ho, .ref s.heap.objs.size, _, I.laid (t' := s.toks) (o := .tup []) (fun b ob q => Heap.get?_push_of_some _ q) (Nat.le_refl _) ⟨Nat.zero_le _, [], .nil, IsTup.new _ _⟩, rfl, q _ (I.hok.fresh (Nat.le_refl _))⟩⟩)

/-- a product -/
def qMul : PyData → PyData → DP := fun d e Q => match d, e with
  | .int i, .int j => CMulW i j ∧ Q (.int (i * j))
  | .str z, .int k => -(2 ^ 63) ≤ k ∧ k < 2 ^ 63 ∧ z.length * k.toNat ≤ sizeLine ∧ Q (.str (srep z k.toNat))
  | .tuple xs, .int k => -1000 ≤ k ∧ k ≤ 1000 ∧ xs.length ≤ 1000 ∧ Q (.tuple (List.replicate k.toNat xs).flatten)
  | .list xs, .int k => -(2 ^ 63) ≤ k ∧ k < 2 ^ 63 ∧ xs.length * k.toNat ≤ sizeLine ∧ Q (.list (List.replicate k.toNat xs).flatten)
  | _, _ => False
def rMul' (K : PySem.W.Frag) : R2 := fun x y H Q => ((((rI CMulW fun i j => V.int (i * j)) x y H Q ∨ rRepS x y H Q) ∨ rRepT K x y H Q) ∨ rRepU K x y H Q) ∨ rRep x y H Q
theorem op_mul' : OpR X (binaryOp .Mult) (rMul' X.K) := OpR.or (OpR.or (OpR.or (OpR.or op_mulW op_repS) op_repT) op_repU) op_rep
theorem lr_mul {K : PySem.W.Frag} : LR (rMul' K) qMul := fun hh H x y d e Q Q1 hd hx hy h q => by
  cases hx with
  | int i =>
    cases hy with
    | int j => exact .inl (.inl (.inl (.inl ⟨i, j, rfl, rfl, h.1, q _ _ _ h.2 (Same.refl H) (.int _)⟩)))
    | _ => exact h.elim
  | str z =>
    cases hy with
    | int k => exact .inl (.inl (.inl (.inr ⟨z, k, rfl, rfl, h.2.1, h.1, h.2.2.1, q _ _ _ h.2.2.2 (Same.refl H) (.str _)⟩)))
    | _ => exact h.elim
  | @tup a vs ds ha hA =>
    cases hy with
    | int k =>
      have l1 := hA.len
      obtain ⟨h1, h2, h3, h4⟩ := h
      by_cases hn : vs = []
      · subst hn
        cases hA
        have e : (List.replicate k.toNat ([] : List PyData)).flatten = [] := by simp
        rw [e] at h4
        exact .inl (.inr ⟨a, k, [], rfl, rfl, SqT.of (hsub ha), h1, h2, .inl ⟨.inl rfl, q _ _ _ h4 (Same.refl H) (.tup ha .nil)⟩⟩)
      · by_cases hk1 : k = 1
        · subst hk1
          have e : (List.replicate (1 : Int).toNat ds).flatten = ds := by simp
          rw [e] at h4
          exact .inl (.inr ⟨a, 1, vs, rfl, rfl, SqT.of (hsub ha), h1, h2, .inl ⟨.inr rfl, q _ _ _ h4 (Same.refl H) (.tup ha hA)⟩⟩)
        · by_cases hk0 : k ≤ 0
          · have e : k.toNat = 0 := by omega
            rw [e] at h4
            refine .inl (.inr ⟨a, k, vs, rfl, rfl, SqT.of (hsub ha), h1, h2, .inr ⟨hn, hk0, fun p hp => ?_⟩⟩)
            obtain ⟨g1, g2⟩ := new_tup hd (vs := []) (ds := []) .nil hp
            exact q _ _ _ h4 g1 g2
          · refine .inl (.inl (.inr ⟨a, k, vs, rfl, rfl, SqT.of (hsub ha), hn, by omega, by omega, by omega, fun p hp => ?_⟩))
            obtain ⟨g1, g2⟩ := new_tup hd (hA.rep k.toNat) hp
            exact q _ _ _ h4 g1 g2
    | _ => exact h.elim
  | @lst a vs ds ha hA =>
    cases hy with
    | int k =>
      have l1 := hA.len
      obtain ⟨h1, h2, h3, h4⟩ := h
      refine .inr ⟨a, k, vs, rfl, rfl, hsub ha, h1, h2, by rw [l1]; exact h3, fun p hp => ?_⟩
      obtain ⟨g1, g2⟩ := new_lst hd (hA.rep k.toNat) hp
      exact q _ _ _ h4 g1 g2
    | _ => exact h.elim
  | _ => cases hy <;> exact h.elim
theorem l_mul (ha : PL X a ta pa) (hb : PL X b tb pb) : PL X (.BinOp a .Mult b pos) (tOp (rMul' X.K) ta tb) (dOp qMul pa pb) := ⟨pe_op op_mul' ha.pe hb.pe, lf_op lr_mul ha.lf hb.lf⟩

/-! comparisons -/
def qCmp (f : Int → Int → Bool) : PyData → PyData → DP := qI0 fun i j => .bool (f i j)
def qLt := qCmp fun i j => decide (i < j)
def qLe := qCmp fun i j => decide (i ≤ j)
def qGt := qCmp fun i j => decide (i > j)
def qGe := qCmp fun i j => decide (i ≥ j)
def okD (d : PyData) : Bool := PyData.plain d && decide (PyData.depth d ≤ 64)
def qEq : PyData → PyData → DP := fun d e Q => okD d = true ∧ okD e = true ∧ Q (.bool (PyData.eqv d e))
def qNe : PyData → PyData → DP := fun d e Q => okD d = true ∧ okD e = true ∧ Q (.bool (!PyData.eqv d e))
def rEqP (K : PySem.W.Frag) : R2 := fun x y H Q => ∃ d e, Dp K H x d ∧ Dp K H y e ∧ okD d = true ∧ okD e = true ∧ Q (.bl (PyData.eqv d e)) H
def rNeP (K : PySem.W.Frag) : R2 := fun x y H Q => ∃ d e, Dp K H x d ∧ Dp K H y e ∧ okD d = true ∧ okD e = true ∧ Q (.bl (!PyData.eqv d e)) H
theorem okD_of {d : PyData} (h : okD d = true) : PyData.plain d = true ∧ PyData.depth d ≤ 64 := by
  unfold okD at h
  obtain ⟨h1, h2⟩ := Bool.and_eq_true_iff.mp h
  exact ⟨h1, of_decide_eq_true h2⟩
theorem op_eqP (hu : X.A.units + 64 < cLine) : OpR X (compareOp .Eq) (rEqP X.K) := by
  intro pins s σ H x y v u Q I rx ry h
  obtain ⟨d, e, hd, he, sd, se, q⟩ := h
  obtain ⟨as, r1⟩ := Dp.reads I d x v hd rx
  obtain ⟨bs, r2⟩ := Dp.reads I e y u he ry
  have h1 := okD_of sd
  have h2 := okD_of se
  exact SeqAt.eq_plain r1 r2 h1.1 h2.1 (by omega) ⟨.bl _, H, I, rfl, q⟩
theorem op_neP (hu : X.A.units + 64 < cLine) : OpR X (compareOp .NotEq) (rNeP X.K) := by
  intro pins s σ H x y v u Q I rx ry h
  obtain ⟨d, e, hd, he, sd, se, q⟩ := h
  obtain ⟨as, r1⟩ := Dp.reads I d x v hd rx
  obtain ⟨bs, r2⟩ := Dp.reads I e y u he ry
  have h1 := okD_of sd
  have h2 := okD_of se
  exact SeqAt.ne_plain r1 r2 h1.1 h2.1 (by omega) ⟨.bl _, H, I, rfl, q⟩
theorem lr_eq {K : PySem.W.Frag} : LR (rEqP K) qEq := fun hh H x y d e Q Q1 hd hx hy h q =>
  ⟨d, e, (hx.same hw_sub).dp, (hy.same hw_sub).dp, h.1, h.2.1, q _ _ _ h.2.2 (Same.refl H) (.bl _)⟩
theorem lr_ne {K : PySem.W.Frag} : LR (rNeP K) qNe := fun hh H x y d e Q Q1 hd hx hy h q =>
  ⟨d, e, (hx.same hw_sub).dp, (hy.same hw_sub).dp, h.1, h.2.1, q _ _ _ h.2.2 (Same.refl H) (.bl _)⟩
/-- is None, is True -/
def qIs : PyData → PyData → DP := fun d e Q => match e, d with
  | .none, .none => Q (.bool true)
  | .none, _ => Q (.bool false)
  | .bool y, .bool x => Q (.bool (decide (x = y)))
  | .bool _, .int _ => Q (.bool false)
  | _, _ => False
def qIsNot : PyData → PyData → DP := fun d e Q => match e, d with
  | .none, .none => Q (.bool false)
  | .none, _ => Q (.bool true)
  | .bool y, .bool x => Q (.bool (!decide (x = y)))
  | .bool _, .int _ => Q (.bool true)
  | _, _ => False
/-- a whole number is no bool -/
def rIsIB : R2 := fun x y H Q => ∃ (i : Int) (b : Bool), x = .int i ∧ y = .bl b ∧ Q (.bl false) H
def rNotIB : R2 := fun x y H Q => ∃ (i : Int) (b : Bool), x = .int i ∧ y = .bl b ∧ Q (.bl true) H
theorem op_isIB {X : Cx} : OpR X (compareOp .Is) rIsIB := by
  intro pins s σ H x y v u Q I rx ry h
  obtain ⟨i, b, rfl, rfl, q⟩ := h
  obtain ⟨t, rfl⟩ := (show ∃ t, v = Value.int i t from rx)
  cases (show u = Value.bool b from ry)
  exact wpAny_is_other rfl (fun z => nomatch z) ⟨.bl false, H, I, rfl, q⟩
theorem op_notIB {X : Cx} : OpR X (compareOp .IsNot) rNotIB := by
  intro pins s σ H x y v u Q I rx ry h
  obtain ⟨i, b, rfl, rfl, q⟩ := h
  obtain ⟨t, rfl⟩ := (show ∃ t, v = Value.int i t from rx)
  cases (show u = Value.bool b from ry)
  exact wpAny_isNot_other rfl (fun z => nomatch z) ⟨.bl true, H, I, rfl, q⟩
def rIs' : R2 := fun x y H Q => (y = .non ∧ Q (.bl (decide (x = .non))) H) ∨ rIsB x y H Q ∨ rIsIB x y H Q
def rIsNot' : R2 := fun x y H Q => (y = .non ∧ Q (.bl (!decide (x = .non))) H) ∨ rNotB x y H Q ∨ rNotIB x y H Q
theorem lr_is : LR rIs' qIs := fun hh H x y d e Q Q1 hd hx hy h q => by
  cases hy with
  | non =>
    cases hx with
    | non => exact .inl ⟨rfl, q _ _ _ h (Same.refl H) (.bl true)⟩
    | _ => exact .inl ⟨rfl, q _ _ _ h (Same.refl H) (.bl false)⟩
  | bl y =>
    cases hx with
    | bl x => exact .inr (.inl ⟨x, y, rfl, rfl, q _ _ _ h (Same.refl H) (.bl _)⟩)
    | int x => exact .inr (.inr ⟨x, y, rfl, rfl, q _ _ _ h (Same.refl H) (.bl _)⟩)
    | _ => exact h.elim
  | _ => exact h.elim
theorem lr_isNot : LR rIsNot' qIsNot := fun hh H x y d e Q Q1 hd hx hy h q => by
  cases hy with
  | non =>
    cases hx with
    | non => exact .inl ⟨rfl, q _ _ _ h (Same.refl H) (.bl false)⟩
    | _ => exact .inl ⟨rfl, q _ _ _ h (Same.refl H) (.bl true)⟩
  | bl y =>
    cases hx with
    | bl x => exact .inr (.inl ⟨x, y, rfl, rfl, q _ _ _ h (Same.refl H) (.bl _)⟩)
    | int x => exact .inr (.inr ⟨x, y, rfl, rfl, q _ _ _ h (Same.refl H) (.bl _)⟩)
    | _ => exact h.elim
  | _ => exact h.elim
/-- in, not in of texts -/
def inS (x y : Str) : Bool := !(Builtin.Str.occurrences y x 0 y.length 1).isEmpty
def qIn : PyData → PyData → DP := fun d e Q => match d, e with
  | .str x, .str y => Q (.bool (inS x y))
  | _, _ => False
def qNotIn : PyData → PyData → DP := fun d e Q => match d, e with
  | .str x, .str y => Q (.bool (!inS x y))
  | _, _ => False
def rIn' : R2 := fun x y H Q => ∃ i j, x = V.str i ∧ y = V.str j ∧ Q (V.bl !(Builtin.Str.occurrences j i 0 j.length 1).isEmpty) H
def rNotIn' : R2 := fun x y H Q => ∃ i j, x = V.str i ∧ y = V.str j ∧ Q (V.bl !!(Builtin.Str.occurrences j i 0 j.length 1).isEmpty) H
theorem lr_in : LR rIn' qIn := fun hh H x y d e Q Q1 hd hx hy h q => by
  cases hx with
  | str i =>
    cases hy with
    | str j => exact ⟨i, j, rfl, rfl, q _ _ _ h (Same.refl H) (.bl _)⟩
    | _ => exact h.elim
  | _ => cases hy <;> exact h.elim
theorem lr_notIn : LR rNotIn' qNotIn := fun hh H x y d e Q Q1 hd hx hy h q => by
  cases hx with
  | str i =>
    cases hy with
    | str j => exact ⟨i, j, rfl, rfl, q _ _ _ h (Same.refl H) (.bl _)⟩
    | _ => exact h.elim
  | _ => cases hy <;> exact h.elim
/-- a comparison: the operator's rule and what it tells -/
structure CR2 (X : Cx) (op : CmpOp) (r : R2) (q : PyData → PyData → DP) : Prop where
  op : OpR X (compareOp op) r
  lr : LR r q
theorem c_lt : CR2 X .Lt (rI0 fun i j => V.bl (decide (i < j))) qLt := ⟨op_lt, lr_I0 fun _ _ _ => .bl _⟩
theorem c_le : CR2 X .LtE (rI0 fun i j => V.bl (decide (i ≤ j))) qLe := ⟨op_le, lr_I0 fun _ _ _ => .bl _⟩
theorem c_gt : CR2 X .Gt (rI0 fun i j => V.bl (decide (i > j))) qGt := ⟨op_gt, lr_I0 fun _ _ _ => .bl _⟩
theorem c_ge : CR2 X .GtE (rI0 fun i j => V.bl (decide (i ≥ j))) qGe := ⟨op_ge, lr_I0 fun _ _ _ => .bl _⟩
theorem c_eq (hu : X.A.units + 64 < cLine) : CR2 X .Eq (rEqP X.K) qEq := ⟨op_eqP hu, lr_eq⟩
theorem c_ne (hu : X.A.units + 64 < cLine) : CR2 X .NotEq (rNeP X.K) qNe := ⟨op_neP hu, lr_ne⟩
theorem c_is : CR2 X .Is rIs' qIs := ⟨OpR.or op_isN (OpR.or op_isBl op_isIB), lr_is⟩
theorem c_isNot : CR2 X .IsNot rIsNot' qIsNot := ⟨OpR.or op_notN (OpR.or op_notBl op_notIB), lr_isNot⟩
theorem c_in : CR2 X .In rIn' qIn := ⟨op_in_str, lr_in⟩
theorem c_notIn : CR2 X .NotIn rNotIn' qNotIn := ⟨op_notIn_str, lr_notIn⟩
theorem l_cmp {op : CmpOp} {r : R2} {q : PyData → PyData → DP} (ho : CR2 X op r q) (ha : PL X a ta pa) (hb : PL X b tb pb) (hm : behindInMarks op b = false := by rfl) : PL X (.Compare a [op] [b] pos) (tOp r ta tb) (dOp q pa pb) :=
  ⟨pe_cmpR ho.op ha.pe hb.pe hm, lf_op ho.lr ha.lf hb.lf⟩
def dTest (p : DE) : DT := fun ss n Q => p ss n fun d n' => ∃ b, d = .bool b ∧ Q b n'
theorem lf_test (h : Lf t p) : LfT (tTest t) (dTest p) := fun g H0 σ H ss n w Q Q1 k hp q =>
  h g H0 σ H ss n w _ _ k hp fun d n' v H' h1 e1 k1 r1 => by
    obtain ⟨b, rfl, h1⟩ := h1
    cases r1
    exact ⟨b, rfl, q _ _ _ h1 e1 k1⟩
theorem lt_cmp {op : CmpOp} {r : R2} {q : PyData → PyData → DP} (ho : CR2 X op r q) (ha : PL X a ta pa) (hb : PL X b tb pb) (hm : behindInMarks op b = false := by rfl) : PLT X (.Compare a [op] [b] pos) (tTest (tOp r ta tb)) (dTest (dOp q pa pb)) :=
  ⟨pt_cmpR ho.op ha.pe hb.pe hm, lf_test (lf_op ho.lr ha.lf hb.lf)⟩
/-- a op b op' c -/
def dChain (q q' : PyData → PyData → DP) (pa pb pc : DE) : DE := fun ss n Q => pa ss n fun d n1 => pb ss n1 fun e n2 => q d e fun f => ∃ k, f = .bool k ∧ if k = true then pc ss n2 fun z n3 => q' e z fun f' => Q f' n3 else Q (.bool false) n2
theorem l_chain {op op' : CmpOp} {r r' : R2} {q q' : PyData → PyData → DP} (ho : CR2 X op r q) (ho' : CR2 X op' r' q') (ha : PL X a ta pa) (hb : PL X b tb pb) (hc : PL X c tc pc) (hm : lastMarks [op, op'] [b, c] = false := by with_unfolding_all rfl) :
    PL X (.Compare a [op, op'] [b, c] pos) (tChain r r' ta tb tc) (dChain q q' pa pb pc) := by
  refine ⟨pe_chain ho.op ho'.op ha.pe hb.pe hc.pe hm, fun g H0 σ H ss n w Q Q1 k h hq => ?_⟩
  refine ha.lf g H0 σ H ss n w _ _ k h fun d n1 v H1 h1 e1 k1 r1 => hb.lf g H0 σ H1 ss n1 w _ _ k1 h1 fun e n2 u H2 h2 e2 k2 r2 => ?_
  refine ho.lr g.h H2 v u d e _ _ k2.hd (r1.same (h0_ed e2)) r2 h2 fun z H3 f h3 e3 r3 => ?_
  obtain ⟨b, rfl, h3⟩ := h3
  cases r3
  refine ⟨b, rfl, ?_⟩
  have k3 := k2.same e3
  cases b with
  | true =>
    rw [if_pos rfl] at h3 ⊢
    refine hc.lf g H0 σ H3 ss n2 w _ _ k3 h3 fun z n3 x H4 h4 e4 k4 r4 => ?_
    exact ho'.lr g.h H4 u x e z _ _ k4.hd ((r2.same (hw_same e3)).same (h0_ed e4)) r4 h4 fun z' H5 f' h5 e5 r5 => hq f' n3 z' H5 h5 ((((e1.trans e2).trans (Ed.of e3)).trans e4).trans (Ed.of e5)) (k4.same e5) r5
  | false =>
    rw [if_neg Bool.false_ne_true] at h3 ⊢
    exact hq _ _ _ _ h3 ((e1.trans e2).trans (Ed.of e3)) k3 (.bl false)
end
end Ev

namespace Ev
open PySem PySem.Spec PyProof.Rows L2
/-! ### tests -/
def qTru : PyData → (Bool → Prop) → Prop := fun d Q => match d with
  | .none => Q false
  | .bool b => Q b
  | .int i => Q (i != 0)
  | .str y => y.length ≤ sizeLine ∧ Q ((y.length : Int) != 0)
  | .list xs => Q (!xs.isEmpty)
  | .tuple xs => Q (!xs.isEmpty)
  | _ => False
theorem isEmpty_len {α β : Type} {xs : List α} {ys : List β} (h : xs.length = ys.length) : xs.isEmpty = ys.isEmpty := by
  cases xs <;> cases ys <;> first | rfl | simp at h
theorem tru_of {K : PySem.W.Frag} {H H1 : Hp} {v : V} {d : PyData} {Q : Bool → Prop} (s : Same H1 H) (h : Dq H1 v d) (q : qTru d Q) : ∃ k, TruV K v H k ∧ Q k := by
  cases h with
  | non => exact ⟨false, rfl, q⟩
  | bl b => exact ⟨b, rfl, q⟩
  | int i => exact ⟨_, rfl, q⟩
  | str y => exact ⟨_, ⟨q.1, rfl⟩, q.2⟩
  | @lst a vs ds ha hA => exact ⟨_, .inl ⟨vs, SqL.of (s _ _ ha), rfl⟩, by rw [isEmpty_len hA.len]; exact q⟩
  | @tup a vs ds ha hA => exact ⟨_, .inr (.inl ⟨vs, SqT.of (s _ _ ha), rfl⟩), by rw [isEmpty_len hA.len]; exact q⟩
section
variable {X : Cx} {e a b c : Expr} {es : List Expr} {t ta tb tc : TE} {tt tu : TT} {tA : TA} {p pa pb pc : DE} {pt pu : DT} {pA : DA} {pos apos : Pos}
def tTru (K : PySem.W.Frag) (ta : TE) : TT := fun σ H Q => ta σ H fun x H' => ∃ k, TruV K x H' k ∧ Q k H'
def dTru (p : DE) : DT := fun ss n Q => p ss n fun d n' => qTru d fun b => Q b n'
theorem lf_tru {K : PySem.W.Frag} (h : Lf t p) : LfT (tTru K t) (dTru p) := fun g H0 σ H ss n w Q Q1 k hp q =>
  h g H0 σ H ss n w _ _ k hp fun d n' v H' h1 e1 k1 r1 => by
    obtain ⟨b, h2, h3⟩ := tru_of (K := K) hw_sub r1 h1
    exact ⟨b, h2, q _ _ _ h3 e1 k1⟩
theorem lt_tru (ha : PL X a ta pa) (h : ∀ (whole : Sem Value), PySem.isTrue a X.env whole = do { let v ← whole; standAt a.pos; holding [v] (truthy v) } := by intro _; rfl) : PLT X a (tTru X.K ta) (dTru pa) := ⟨pt_truth ha.pe h, lf_tru ha.lf⟩
def dNot (p : DT) : DT := fun ss n Q => p ss n fun b n' => Q (!b) n'
theorem lt_not (ha : PLT X a tt pt) : PLT X (.UnaryOp .Not a pos) (tNot tt) (dNot pt) := ⟨pt_not ha.pt, fun g H0 σ H ss n w Q Q1 k hp q => ha.lf g H0 σ H ss n w _ _ k hp fun b n' H' h1 e1 k1 => q _ _ _ h1 e1 k1⟩
def dAnd (p r : DT) : DT := fun ss n Q => p ss n fun b n' => if b = true then r ss n' Q else Q false n'
def dOr (p r : DT) : DT := fun ss n Q => p ss n fun b n' => if b = true then Q true n' else r ss n' Q
theorem lf_and (ha : LfT tt pt) (hb : LfT tu pu) : LfT (tAnd tt tu) (dAnd pt pu) := fun g H0 σ H ss n w Q Q1 k hp q => ha g H0 σ H ss n w _ _ k hp fun b n' H' h1 e1 k1 => by
  cases b with
  | true =>
    rw [if_pos rfl] at h1 ⊢
    exact hb g H0 σ H' ss n' w _ _ k1 h1 fun b n2 H2 h2 e2 k2 => q _ _ _ h2 (e1.trans e2) k2
  | false =>
    rw [if_neg Bool.false_ne_true] at h1 ⊢
    exact q _ _ _ h1 e1 k1
theorem lf_or (ha : LfT tt pt) (hb : LfT tu pu) : LfT (tOr tt tu) (dOr pt pu) := fun g H0 σ H ss n w Q Q1 k hp q => ha g H0 σ H ss n w _ _ k hp fun b n' H' h1 e1 k1 => by
  cases b with
  | true =>
    rw [if_pos rfl] at h1 ⊢
    exact q _ _ _ h1 e1 k1
  | false =>
    rw [if_neg Bool.false_ne_true] at h1 ⊢
    exact hb g H0 σ H' ss n' w _ _ k1 h1 fun b n2 H2 h2 e2 k2 => q _ _ _ h2 (e1.trans e2) k2
theorem lw_and {rest : List Expr} (ha : PLT X a tt pt) (hb : PLW X (.BoolOp .And (b :: rest) pos) tu pu) : PLW X (.BoolOp .And (a :: b :: rest) pos) (tAnd tt tu) (dAnd pt pu) := ⟨pw_and ha.pt hb.pw, lf_and ha.lf hb.lf⟩
theorem lw_and1 (ha : PLT X a tt pt) : PLW X (.BoolOp .And [a] pos) tt pt := ⟨pw_and1 ha.pt, ha.lf⟩
theorem lw_or {rest : List Expr} (ha : PLT X a tt pt) (hb : PLW X (.BoolOp .Or (b :: rest) pos) tu pu) : PLW X (.BoolOp .Or (a :: b :: rest) pos) (tOr tt tu) (dOr pt pu) := ⟨pw_or ha.pt hb.pw, lf_or ha.lf hb.lf⟩
theorem lw_or1 (ha : PLT X a tt pt) : PLW X (.BoolOp .Or [a] pos) tt pt := ⟨pw_or1 ha.pt, ha.lf⟩
/-! the same as values -/
def dNotV (p : DE) : DE := fun ss n Q => p ss n fun d n' => qTru d fun b => Q (.bool (!b)) n'
theorem l_not (ha : PL X a ta pa) : PL X (.UnaryOp .Not a pos) (tNotT X.K ta) (dNotV pa) := ⟨pe_notT ha.pe, fun g H0 σ H ss n w Q Q1 k hp q => ha.lf g H0 σ H ss n w _ _ k hp fun d n' v H' h1 e1 k1 r1 => by
  obtain ⟨b, h2, h3⟩ := tru_of (K := X.K) hw_sub r1 h1
  exact ⟨b, h2, q _ _ _ _ h3 e1 k1 (.bl _)⟩⟩
def dAndV (p r : DE) : DE := fun ss n Q => p ss n fun d n' => qTru d fun b => if b = true then r ss n' Q else Q d n'
def dOrV (p r : DE) : DE := fun ss n Q => p ss n fun d n' => qTru d fun b => if b = true then Q d n' else r ss n' Q
theorem l_and {rest : List Expr} (ha : PL X a ta pa) (hb : PL X (.BoolOp .And (b :: rest) pos) tb pb) : PL X (.BoolOp .And (a :: b :: rest) pos) (tAndT X.K ta tb) (dAndV pa pb) :=
  ⟨pe_andT ha.pe hb.pe, fun g H0 σ H ss n w Q Q1 k hp q => ha.lf g H0 σ H ss n w _ _ k hp fun d n' v H' h1 e1 k1 r1 => by
    obtain ⟨b, h2, h3⟩ := tru_of (K := X.K) hw_sub r1 h1
    refine ⟨b, h2, ?_⟩
    cases b with
    | true =>
      rw [if_pos rfl] at h3 ⊢
      exact hb.lf g H0 σ H' ss n' w _ _ k1 h3 fun d n2 v H2 h2 e2 k2 r2 => q _ _ _ _ h2 (e1.trans e2) k2 r2
    | false =>
      rw [if_neg Bool.false_ne_true] at h3 ⊢
      exact q _ _ _ _ h3 e1 k1 r1⟩
theorem l_or {rest : List Expr} (ha : PL X a ta pa) (hb : PL X (.BoolOp .Or (b :: rest) pos) tb pb) : PL X (.BoolOp .Or (a :: b :: rest) pos) (tOrT X.K ta tb) (dOrV pa pb) :=
  ⟨pe_orT ha.pe hb.pe, fun g H0 σ H ss n w Q Q1 k hp q => ha.lf g H0 σ H ss n w _ _ k hp fun d n' v H' h1 e1 k1 r1 => by
    obtain ⟨b, h2, h3⟩ := tru_of (K := X.K) hw_sub r1 h1
    refine ⟨b, h2, ?_⟩
    cases b with
    | true =>
      rw [if_pos rfl] at h3 ⊢
      exact q _ _ _ _ h3 e1 k1 r1
    | false =>
      rw [if_neg Bool.false_ne_true] at h3 ⊢
      exact hb.lf g H0 σ H' ss n' w _ _ k1 h3 fun d n2 v H2 h2 e2 k2 r2 => q _ _ _ _ h2 (e1.trans e2) k2 r2⟩
theorem l_one {op : BoolOp} (ha : PL X a ta pa) : PL X (.BoolOp op [a] pos) ta pa := ⟨pe_one ha.pe, ha.lf⟩
def dIf (pt : DT) (p r : DE) : DE := fun ss n Q => pt ss n fun b n' => if b = true then p ss n' Q else r ss n' Q
theorem l_if (hc : PLT X c tt pt) (ha : PL X a ta pa) (hb : PL X b tb pb) : PL X (.IfExp c a b pos) (tIf tt ta tb) (dIf pt pa pb) := ⟨pe_ifExp hc.pt ha.pe hb.pe, fun g H0 σ H ss n w Q Q1 k hp q => hc.lf g H0 σ H ss n w _ _ k hp fun b n' H' h1 e1 k1 => by
  cases b with
  | true =>
    rw [if_pos rfl] at h1 ⊢
    exact ha.lf g H0 σ H' ss n' w _ _ k1 h1 fun d n2 v H2 h2 e2 k2 r2 => q _ _ _ _ h2 (e1.trans e2) k2 r2
  | false =>
    rw [if_neg Bool.false_ne_true] at h1 ⊢
    exact hb.lf g H0 σ H' ss n' w _ _ k1 h1 fun d n2 v H2 h2 e2 k2 r2 => q _ _ _ _ h2 (e1.trans e2) k2 r2⟩

/-! ### arguments, displays -/
abbrev DW := List S → Nat → (W → Nat → Prop) → Prop
def LfW (t : TE) (p : DW) : Prop := ∀ (g : Gd) (H0 : Hp) (σ : L2.St) (H : Hp) (ss : List S) (n : Nat) (w : Addr → Option Nat) (Q : VK) (Q1 : W → Nat → Prop), Ok g H0 σ H ss n w → p ss n Q1 →
  (∀ d n' v H', Q1 d n' → Ed g.dk H H' → Ok g H0 σ H' ss n' w → WOk g H' v d → Q v H') → t σ H Q
structure PLG (X : Cx) (e : Expr) (t : TE) (p : DW) : Prop where
  pe : PE X e t
  lf : LfW t p
def dArg (p : DE) : DW := fun ss n Q => p ss n fun d n' => Q (.d d) n'
theorem g_ (h : PL X a ta pa) : PLG X a ta (dArg pa) := ⟨h.pe, fun g H0 σ H ss n w Q Q1 k hp q => h.lf g H0 σ H ss n w _ _ k hp fun d n' v H' h1 e1 k1 r1 => q _ _ _ _ h1 e1 k1 r1⟩
def dArgV (i : Nat) : DW := fun ss n Q => match ss[i]? with | some (.d x) => Q (.d x) n | some (.own xs) => Q (.d (.list xs)) n | some .dk => Q .dk n | _ => False
theorem gv (i : Nat) {x : Str} (hN : X.N[i]? = some x := by rfl) (hv : Vis X.env.scope x := by first | exact Or.inl rfl | exact Or.inr (Or.inl rfl) | exact Or.inr (Or.inr rfl)) (hd : (x == ("__debug__" : Str)) = false := by decide)
    (hcd : (x == ("__classdict__" : Str)) = false := by decide) : PLG X (.Name x pos) (tVar i) (dArgV i) := ⟨pe_var hN hv hd hcd, fun g H0 σ H ss n w Q Q1 k h q => by
  unfold dArgV at h
  split at h
  · rename_i x e
    obtain ⟨v, h1, h2⟩ := k.var e
    exact ⟨v, h1, q _ _ _ _ h (Ed.refl _ _) k (h2.same (hw_h0 k.ext))⟩
  · rename_i xs e
    obtain ⟨v, h1, h2⟩ := k.varL e
    exact ⟨v, h1, q _ _ _ _ h (Ed.refl _ _) k h2⟩
  · rename_i e
    exact ⟨_, k.sl i _ e, q _ _ _ _ h (Ed.refl _ _) k rfl⟩
  · exact h.elim⟩
def dNil : DA := fun _ n Q => Q [] n
def dCons (p : DW) (r : DA) : DA := fun ss n Q => p ss n fun a n' => r ss n' fun as n2 => Q (a :: as) n2
theorem a_nil : PLA X [] tNil dNil := ⟨pa_nil, fun g H0 σ H ss n w Q Q1 k h q => q _ _ _ _ h (Ed.refl _ _) k .nil⟩
theorem a_cons {pw : DW} (ha : PLG X e t pw) (hr : PLA X es tA pA) (hs : starEach (e :: es) X.env = (false, eval e X.env) :: starEach es X.env := by rfl) : PLA X (e :: es) (tCons t tA) (dCons pw pA) :=
  ⟨pa_cons ha.pe hr.pa hs, fun g H0 σ H ss n w Q Q1 k h q => ha.lf g H0 σ H ss n w _ _ k h fun d n' v H' h1 e1 k1 r1 => hr.lf g H0 σ H' ss n' w _ _ k1 h1 fun as n2 vs H2 h2 e2 k2 r2 => q _ _ _ _ h2 (e1.trans e2) k2 (.cons (r1.ed e2) r2)⟩
def datas : List W → Option (List PyData)
  | [] => some []
  | .d x :: r => match datas r with
    | some ds => some (x :: ds)
    | none => none
  | .dk :: _ => none
theorem datas_ok {g : Gd} {H : Hp} : ∀ {vs : List V} {as : List W} {ds : List PyData}, WsOk g H vs as → datas as = some ds → DqA (hw g.h H) vs ds
  | _, _, _, .nil, e => by cases e; exact .nil
  | _, _, _, .cons (a := .d x) h q, e => by
    unfold datas at e
    split at e
    · rename_i ds' e'
      cases e
      exact .cons h (datas_ok q e')
    · cases e
  | _, _, _, .cons (a := .dk) h q, e => by cases e
/-- the arguments as data -/
def onD (as : List W) (P : List PyData → Prop) : Prop := match datas as with
  | some ds => P ds
  | none => False
theorem onD_some {as : List W} {P : List PyData → Prop} (h : onD as P) : ∃ ds, datas as = some ds ∧ P ds := by
  unfold onD at h
  split at h
  · exact ⟨_, by assumption, h⟩
  · exact h.elim
def dTup (p : DA) : DE := fun ss n Q => p ss n fun as n' => onD as fun ds => ds.length ≤ sizeLine ∧ Q (.tuple ds) n'
def dLst (p : DA) : DE := fun ss n Q => p ss n fun as n' => onD as fun ds => ds.length ≤ sizeLine ∧ Q (.list ds) n'
theorem l_tup {k : Nat} (h : PLA X es tA pA) : PL X (.Tuple es k pos) (tTup tA) (dTup pA) := ⟨pe_tup h.pa, fun g H0 σ H ss n w Q Q1 k hp q => h.lf g H0 σ H ss n w _ _ k hp fun as n' vs H' h1 e1 k1 r1 => by
  obtain ⟨ds, e, h2, h3⟩ := onD_some h1
  have r := datas_ok r1 e
  refine ⟨by rw [r.len]; exact h2, fun p hp => ?_⟩
  obtain ⟨g1, g2⟩ := new_tup k1.hd r hp
  exact q _ _ _ _ h3 (e1.trans (Ed.of g1)) (k1.same g1) g2⟩
theorem l_lst (h : PLA X es tA pA) : PL X (.List es pos) (tLst tA) (dLst pA) := ⟨pe_lst h.pa, fun g H0 σ H ss n w Q Q1 k hp q => h.lf g H0 σ H ss n w _ _ k hp fun as n' vs H' h1 e1 k1 r1 => by
  obtain ⟨ds, e, h2, h3⟩ := onD_some h1
  have r := datas_ok r1 e
  refine ⟨by rw [r.len]; exact h2, fun p hp => ?_⟩
  obtain ⟨g1, g2⟩ := new_lst k1.hd r hp
  exact q _ _ _ _ h3 (e1.trans (Ed.of g1)) (k1.same g1) g2⟩

/-! ### subscripts, slices -/
def qIx : PyData → PyData → DP := fun d e Q => match d, e with
  | .list xs, .int i => ∃ x, atI xs i = some x ∧ Q x
  | .tuple xs, .int i => ∃ x, atI xs i = some x ∧ Q x
  | .str z, .int i => z.length ≤ sizeLine ∧ ∃ c, atI z.cps.toList i = some c ∧ Q (.str ⟨#[c]⟩)
  | _, _ => False
theorem atI_of {H : Hp} {vs : List V} {ds : List PyData} {i : Int} {x : PyData} (h : DqA H vs ds) (e : atI ds i = some x) : ∃ v, atI vs i = some v ∧ Dq H v x := by
  unfold atI at e ⊢
  rw [h.len]
  cases q : ixN ds.length i with
  | none => rw [q] at e; cases e
  | some j =>
    rw [q] at e
    exact h.get (i := j) e
theorem lr_ix {K : PySem.W.Frag} : LR (rIx K) qIx := fun hh H x y d e Q Q1 hd hx hy h q => by
  cases hy with
  | int i =>
    cases hx with
    | @lst a vs ds ha hA =>
      obtain ⟨x, e, h⟩ := h
      obtain ⟨v, e', r⟩ := atI_of hA e
      exact .inl ⟨a, vs, i, v, rfl, rfl, SqL.of (hsub ha), e', q _ _ _ h (Same.refl H) r⟩
    | @tup a vs ds ha hA =>
      obtain ⟨x, e, h⟩ := h
      obtain ⟨v, e', r⟩ := atI_of hA e
      exact .inr (.inl ⟨a, vs, i, v, rfl, rfl, SqT.of (hsub ha), e', q _ _ _ h (Same.refl H) r⟩)
    | str z =>
      obtain ⟨hz, c, e, h⟩ := h
      exact .inr (.inr ⟨z, i, c, rfl, rfl, hz, e, q _ _ _ h (Same.refl H) (.str _)⟩)
    | _ => exact h.elim
  | _ => cases hx <;> exact h.elim
theorem l_ix (ha : PL X a ta pa) (hb : PL X b tb pb) (hs : PlainIx b := by intro _ _; rfl) : PL X (.Subscript a b pos) (tOp (rIx X.K) ta tb) (dOp qIx pa pb) := ⟨pe_ix ix_seq ha.pe hb.pe hs, lf_op lr_ix ha.lf hb.lf⟩

abbrev DO := List S → Nat → (Option Int → Nat → Prop) → Prop
def LfO (t : TO) (p : DO) : Prop := ∀ (g : Gd) (H0 : Hp) (σ : L2.St) (H : Hp) (ss : List S) (n : Nat) (w : Addr → Option Nat) (Q : Option Int → Hp → Prop) (Q1 : Option Int → Nat → Prop), Ok g H0 σ H ss n w → p ss n Q1 →
  (∀ d n' H', Q1 d n' → Ed g.dk H H' → Ok g H0 σ H' ss n' w → Q d H') → t σ H Q
structure PLO (X : Cx) (e : Option Expr) (t : TO) (p : DO) : Prop where
  po : PO X e t
  lf : LfO t p
def dNoPart : DO := fun _ n Q => Q none n
def dPart (p : DE) : DO := fun ss n Q => p ss n fun d n' => ∃ i, d = .int i ∧ Q (some i) n'
theorem o_none : PLO X none tNoPart dNoPart := ⟨po_none, fun g H0 σ H ss n w Q Q1 k h q => q _ _ _ h (Ed.refl _ _) k⟩
theorem o_some (ha : PL X a ta pa) : PLO X (some a) (tPart ta) (dPart pa) := ⟨po_some ha.pe, fun g H0 σ H ss n w Q Q1 k hp q => ha.lf g H0 σ H ss n w _ _ k hp fun d n' v H' h1 e1 k1 r1 => by
  obtain ⟨i, rfl, h2⟩ := h1
  cases r1
  exact ⟨i, rfl, q _ _ _ h2 e1 k1⟩⟩
/-- the items of xs[lo:hi] -/
def cut {α : Type} (xs : List α) (lo hi : Option Int) : List α := (xs.drop (HT.sIx xs.length 0 lo)).take (HT.sIx xs.length xs.length hi - HT.sIx xs.length 0 lo)
theorem cut_dq {H : Hp} {vs : List V} {ds : List PyData} (h : DqA H vs ds) (lo hi : Option Int) : DqA H (cutV vs lo hi) (cut ds lo hi) := by
  unfold cutV cut
  rw [h.len]
  exact (h.drop _).take _
theorem cut_whole {α : Type} {xs : List α} {lo hi : Option Int} (h : HT.sIx xs.length 0 lo = 0 ∧ HT.sIx xs.length xs.length hi = xs.length) : cut xs lo hi = xs := by
  unfold cut
  rw [h.1, h.2]
  simp
def qSl : PyData → Option Int → Option Int → DP := fun d lo hi Q => match d with
  | .list xs => Q (.list (cut xs lo hi))
  | .tuple xs => Q (.tuple (cut xs lo hi))
  | .str z => z.length ≤ sizeLine ∧ Q (.str (cutS z lo hi))
  | _ => False
def rSl' (K : PySem.W.Frag) : V → Option Int → Option Int → Hp → VK → Prop := fun x lo hi H Q => (rSlL K x lo hi H Q ∨ rSlA K x lo hi H Q) ∨ rSlS x lo hi H Q
def dSl (p : DE) (lo hi : DO) : DE := fun ss n Q => p ss n fun d n1 => lo ss n1 fun l n2 => hi ss n2 fun u n3 => qSl d l u fun f => Q f n3
theorem l_sl {lo hi : Option Expr} {tl th : TO} {pl ph : DO} {p2 : Pos} (ha : PL X a ta pa) (hl : PLO X lo tl pl) (hu : PLO X hi th ph) : PL X (.Subscript a (.Slice lo hi none p2) pos) (tSl (rSl' X.K) ta tl th) (dSl pa pl ph) :=
  ⟨pe_slice ((sl_list.or sl_tupA).or sl_str) ha.pe hl.po hu.po, fun g H0 σ H ss n w Q Q1 k hp q => ha.lf g H0 σ H ss n w _ _ k hp fun d n1 v H1 h1 e1 k1 r1 => hl.lf g H0 σ H1 ss n1 w _ _ k1 h1 fun l n2 H2 h2 e2 k2 => hu.lf g H0 σ H2 ss n2 w _ _ k2 h2 fun u n3 H3 h3 e3 k3 => by
    have r3 := r1.same (h0_ed (e2.trans e3))
    have e13 := (e1.trans e2).trans e3
    cases r3 with
    | @lst a vs ds ha hA =>
      refine .inl (.inl ⟨a, vs, rfl, SqL.of (hsub ha), fun p hp => ?_⟩)
      obtain ⟨g1, g2⟩ := new_lst k3.hd (cut_dq hA l u) hp
      exact q _ _ _ _ h3 (e13.trans (Ed.of g1)) (k3.same g1) g2
    | @tup a vs ds ha hA =>
      refine .inl (.inr ⟨a, vs, rfl, SqT.of (hsub ha), fun hw => ?_, fun _ p hp => ?_⟩)
      · rw [hA.len] at hw
        have h3 : Q1 (.tuple (cut ds l u)) n3 := h3
        rw [cut_whole hw] at h3
        exact q _ _ _ _ h3 e13 k3 (.tup ha hA)
      · obtain ⟨g1, g2⟩ := new_tup k3.hd (cut_dq hA l u) hp
        exact q _ _ _ _ h3 (e13.trans (Ed.of g1)) (k3.same g1) g2
    | str z => exact .inr ⟨z, rfl, h3.1, q _ _ _ _ h3.2 e13 k3 (.str _)⟩
    | _ => exact h3.elim⟩

/-! ### calls of built-ins -/
def dCall (q : List PyData → DP) (pA : DA) : DE := fun ss n Q => pA ss n fun as n' => onD as fun ds => q ds fun f => Q f n'
theorem lf_cb {r : List V → Hp → VK → Prop} {q : List PyData → DP} (hr : LC r q) (h : LfA tA pA) : Lf (tCB r tA) (dCall q pA) := fun g H0 σ H ss n w Q Q1 k hp hq => h g H0 σ H ss n w _ _ k hp fun as n' vs H' h1 e1 k1 r1 => by
  obtain ⟨ds, e, h2⟩ := onD_some h1
  exact hr g.h H' vs ds Q _ k1.hd (datas_ok r1 e) h2 fun z H2 f h3 e3 r3 => hq _ _ _ _ h3 (e1.trans (Ed.of e3)) (k1.same e3) r3
structure CB (X : Cx) (f : Value) (r : List V → Hp → VK → Prop) (q : List PyData → DP) : Prop where
  op : CallR X f r
  lc : LC r q
theorem l_callB {id : String} {x : Str} {p0 : Pos} {r : List V → Hp → VK → Prop} {q : List PyData → DP} (hc : CB X (.builtin id) r q) (hg : Gl X x) (hm : X.mg x = none) (hv : bootBuiltins x = some (.builtin id)) (ha : PLA X (e :: es) tA pA) (hn : x ≠ "__name__" := by decide)
    (hdb : (x == ("__debug__" : Str)) = false := by decide) (he : starEach (e :: es) X.env = (false, eval e X.env) :: starEach es X.env := by rfl) (hpl : (backTo pos (starEach es X.env)).any (·.1) = false := by rfl) :
    PL X (.Call (.Name x p0) (e :: es) [] pos) (tCB r tA) (dCall q pA) := ⟨pe_callB hc.op hg hm hv ha.pa hn hdb he hpl, lf_cb hc.lc ha.lf⟩
theorem l_callT {T : String} {x : Str} {p0 : Pos} {r : List V → Hp → VK → Prop} {q : List PyData → DP} (hc : CB X (.type T) r q) (hg : Gl X x) (hm : X.mg x = none) (hv : bootBuiltins x = some (.type T)) (ha : PLA X (e :: es) tA pA) (hn : x ≠ "__name__" := by decide)
    (hdb : (x == ("__debug__" : Str)) = false := by decide) (he : starEach (e :: es) X.env = (false, eval e X.env) :: starEach es X.env := by rfl) (hpl : (backTo pos (starEach es X.env)).any (·.1) = false := by rfl) :
    PL X (.Call (.Name x p0) (e :: es) [] pos) (tCB r tA) (dCall q pA) := ⟨pe_callTy hc.op hg hm hv ha.pa hn hdb he hpl, lf_cb hc.lc ha.lf⟩
def qLen : List PyData → DP := fun ds Q => match ds with
  | [.list xs] => Q (.int xs.length)
  | [.tuple xs] => Q (.int xs.length)
  | [.str z] => z.length ≤ sizeLine ∧ Q (.int z.length)
  | _ => False
theorem b_len : CB X (.builtin "len") (fun xs H Q => ∃ x n, xs = [x] ∧ LenV X.K x H n ∧ Q (V.int n) H) qLen := ⟨call_len, fun hh H xs ds Q Q1 hd h hq q => by
  cases h with
  | nil => exact hq.elim
  | cons h r =>
    cases r with
    | cons _ _ => cases h <;> exact hq.elim
    | nil =>
      cases h with
      | @lst a vs ds ha hA => exact ⟨_, ds.length, rfl, .inl ⟨vs, SqL.of (hsub ha), hA.len.symm⟩, q _ _ _ hq (Same.refl H) (.int _)⟩
      | @tup a vs ds ha hA => exact ⟨_, ds.length, rfl, .inr ⟨vs, SqT.of (hsub ha), hA.len.symm⟩, q _ _ _ hq (Same.refl H) (.int _)⟩
      | str z => exact ⟨_, z.length, rfl, ⟨hq.1, rfl⟩, q _ _ _ hq.2 (Same.refl H) (.int _)⟩
      | _ => exact hq.elim⟩
theorem ints_of {H : Hp} : ∀ {vs : List V} {ns : List Int}, DqA H vs (ns.map PyData.int) → vs = ns.map V.int
  | _, [], h => by cases h; rfl
  | _, n :: r, h => by
    cases h with
    | cons a b =>
      cases a
      rw [ints_of b]
      rfl
def qSum : List PyData → DP := fun ds Q => match ds with
  | [.list xs] => ∃ ns : List Int, xs = ns.map PyData.int ∧ Q (.int ns.sum)
  | _ => False
theorem b_sum (hc : X.calm = true) : CB X (.builtin "sum") (rSum X.K) qSum := ⟨cr_sum hc, fun hh H xs ds Q Q1 hd h hq q => by
  cases h with
  | nil => exact hq.elim
  | cons h r =>
    cases r with
    | cons _ _ => cases h <;> exact hq.elim
    | nil =>
      cases h with
      | @lst a vs ds ha hA =>
        obtain ⟨ns, rfl, hq⟩ := hq
        exact ⟨a, ns, rfl, by rw [← ints_of hA]; exact SqL.of (hsub ha), q _ _ _ hq (Same.refl H) (.int _)⟩
      | _ => exact hq.elim⟩
def qIntOf : List PyData → DP := fun ds Q => match ds with
  | [.int i] => Q (.int i)
  | [.bool b] => Q (.int (if b = true then 1 else 0))
  | _ => False
theorem b_int : CB X (.type "int") (fun xs H Q => (∃ i, xs = [V.int i] ∧ Q (V.int i) H) ∨ ∃ k, xs = [V.bl k] ∧ Q (V.int (if k = true then 1 else 0)) H) qIntOf := ⟨call_int1, fun hh H xs ds Q Q1 hd h hq q => by
  cases h with
  | nil => exact hq.elim
  | cons h r =>
    cases r with
    | cons _ _ => cases h <;> exact hq.elim
    | nil =>
      cases h with
      | int i => exact .inl ⟨i, rfl, q _ _ _ hq (Same.refl H) (.int _)⟩
      | bl b => exact .inr ⟨b, rfl, q _ _ _ hq (Same.refl H) (.int _)⟩
      | _ => exact hq.elim⟩
def qMin : List PyData → DP := fun ds Q => match ds with
  | [.int i, .int j] => Q (.int (if j < i then j else i))
  | _ => False
theorem b_min (hc : X.calm = true) : CB X (.builtin "min") (fun xs H Q => ∃ i j, xs = [V.int i, V.int j] ∧ Q (V.int (if j < i then j else i)) H) qMin := ⟨call_min2 hc, fun hh H xs ds Q Q1 hd h hq q => by
  cases h with
  | nil => exact hq.elim
  | cons h r =>
    cases r with
    | nil => cases h <;> exact hq.elim
    | cons h' r =>
      cases r with
      | cons _ _ => cases h <;> cases h' <;> exact hq.elim
      | nil =>
        cases h with
        | int i =>
          cases h' with
          | int j => exact ⟨i, j, rfl, q _ _ _ hq (Same.refl H) (.int _)⟩
          | _ => exact hq.elim
        | _ => cases h' <;> exact hq.elim⟩
def qTupOf : List PyData → DP := fun ds Q => match ds with
  | [.list xs] => Q (.tuple xs)
  | [.tuple xs] => Q (.tuple xs)
  | _ => False
theorem b_tuple : CB X (.type "tuple") (fun xs H Q => ∃ p ys, xs = [V.ref p] ∧ ((SqL X.K H p ys ∧ ∀ (l : Addr), H l = none → Q (V.ref l) (upd H l (HO.tup ys))) ∨ SqT X.K H p ys ∧ Q (V.ref p) H)) qTupOf := ⟨call_tuple_of, fun hh H xs ds Q Q1 hd h hq q => by
  cases h with
  | nil => exact hq.elim
  | cons h r =>
    cases r with
    | cons _ _ => cases h <;> exact hq.elim
    | nil =>
      cases h with
      | @lst a vs ds ha hA =>
        refine ⟨a, vs, rfl, .inl ⟨SqL.of (hsub ha), fun l hl => ?_⟩⟩
        obtain ⟨g1, g2⟩ := new_tup hd hA hl
        exact q _ _ _ hq g1 g2
      | @tup a vs ds ha hA => exact ⟨a, vs, rfl, .inr ⟨SqT.of (hsub ha), q _ _ _ hq (Same.refl H) (.tup ha hA)⟩⟩
      | _ => exact hq.elim⟩
def qLstOf : List PyData → DP := fun ds Q => match ds with
  | [.list xs] => Q (.list xs)
  | [.tuple xs] => Q (.list xs)
  | _ => False
theorem b_list : CB X (.type "list") (fun xs H Q => ∃ p ys, xs = [V.ref p] ∧ (SqL X.K H p ys ∨ SqT X.K H p ys) ∧ ∀ (l : Addr), H l = none → Q (V.ref l) (upd H l (HO.lst ys))) qLstOf := ⟨call_list_of, fun hh H xs ds Q Q1 hd h hq q => by
  cases h with
  | nil => exact hq.elim
  | cons h r =>
    cases r with
    | cons _ _ => cases h <;> exact hq.elim
    | nil =>
      cases h with
      | @lst a vs ds ha hA =>
        refine ⟨a, vs, rfl, .inl (SqL.of (hsub ha)), fun l hl => ?_⟩
        obtain ⟨g1, g2⟩ := new_lst hd hA hl
        exact q _ _ _ hq g1 g2
      | @tup a vs ds ha hA =>
        refine ⟨a, vs, rfl, .inr (SqT.of (hsub ha)), fun l hl => ?_⟩
        obtain ⟨g1, g2⟩ := new_lst hd hA hl
        exact q _ _ _ hq g1 g2
      | _ => exact hq.elim⟩
/-! methods of texts -/
def tM1' (r : V → List V → Hp → VK → Prop) (to te : TE) : TE := tM1 r to te
def qJoin : PyData → PyData → DP := fun d e Q => match d, e with
  | .str z, .list xs => ∃ ys : List Str, xs = ys.map PyData.str ∧ (ys.map (·.length)).sum + ys.length * z.length ≤ 16777216 ∧ Q (.str (Txt.join z ys))
  | _, _ => False
def qCount : PyData → PyData → DP := fun d e Q => match d, e with
  | .str x, .str y => Q (.int (Txt.count x y))
  | _, _ => False
theorem strs_of {H : Hp} : ∀ {vs : List V} {ns : List Str}, DqA H vs (ns.map PyData.str) → vs = ns.map V.str
  | _, [], h => by cases h; rfl
  | _, n :: r, h => by
    cases h with
    | cons a b =>
      cases a
      rw [strs_of b]
      rfl
/-- o.m(e), o a text -/
def dM1 (q : PyData → PyData → DP) (pa pb : DE) : DE := fun ss n Q => pa ss n fun d n1 => pb ss n1 fun e n2 => (∃ z, d = .str z) ∧ q d e fun f => Q f n2
theorem lf_m1 {r : V → List V → Hp → VK → Prop} {q : PyData → PyData → DP} (hr : LR (fun x y H Q => r x [y] H Q) q) (hs : ∀ ss n Q, pa ss n Q → pa ss n fun d n1 => (∃ z, d = .str z) ∧ Q d n1) (ha : Lf ta pa) (hb : Lf tb pb) : Lf (tM1 r ta tb) (dM1 q pa pb) :=
  fun g H0 σ H ss n w Q Q1 k h hq => ha g H0 σ H ss n w _ _ k (hs _ _ _ h) fun d n1 v H1 ⟨⟨z, ez⟩, h1⟩ e1 k1 r1 => by
    subst ez
    cases r1
    refine ⟨⟨z, rfl⟩, hb g H0 σ H1 ss n1 w _ _ k1 h1 fun e n2 u H2 h2 e2 k2 r2 => ?_⟩
    exact hr g.h H2 (.str z) u (.str z) e Q _ k2.hd (.str z) r2 h2.2 fun z H3 f h3 e3 r3 => hq f n2 z H3 h3 ((e1.trans e2).trans (Ed.of e3)) (k2.same e3) r3
end
end Ev

namespace Ev
open PySem PySem.Spec PyProof.Rows L2
/-! ### a def's promise, nothing being printed around it -/
structure FnG (P : Program) (w : World) (K : PySem.W.Frag) (mg : Str → Option Value) (base : Heap) (CX : CXT) (k : Nat) (f : Addr) (fd : FuncData) (ps : List Str) (sp : Sp) : Prop where
  len : ∀ vs H Q E, sp vs H Q E → vs.length = ps.length
  run : ∀ (A : Around) (outer : List Env) (s : Shared) (H : Hp) (args : Args) (us : List Value) (vs : List V) (Q : VK) (E : XK), Room k A → A.guards = some [] → Env0 P w K mg base A outer s H →
    BindsTo s fd args (ps.zip us) → Vals vs us → sp vs H Q E → codeAny (model P w) A (.call (.ref f) args) (CR CX outer P w H s Q E) s
section
variable {P : Program} {w : World} {K : PySem.W.Frag} {mg : Str → Option Value} {base : Heap} {CX : CXT} {j k : Nat} {f : Addr} {fd : FuncData} {ps : List Str} {sp sp' : Sp}
theorem FnG.mono (F : FnG P w K mg base CX j f fd ps sp) (h : j ≤ k) : FnG P w K mg base CX k f fd ps sp := ⟨F.len, fun A o s H as us vs Q E hr => F.run A o s H as us vs Q E (hr.mono h)⟩
theorem FnG.imp (F : FnG P w K mg base CX k f fd ps sp) (h : ∀ vs H Q E, sp' vs H Q E → sp vs H Q E) : FnG P w K mg base CX k f fd ps sp' :=
  ⟨fun vs H Q E q => F.len vs H Q E (h _ _ _ _ q), fun A o s H as us vs Q E hr hg he hb hv hs => F.run A o s H as us vs Q E hr hg he hb hv (h _ _ _ _ hs)⟩
/-- a def of the text, from its body -/
theorem fnG_of {N : List Str} {x qual : Str} {st : Stmt} (F : Fun K x qual st f fd) (S : FnScope N ps (defScope st)) (len : ∀ vs H Q E, sp vs H Q E → vs.length = ps.length)
    (body : ∀ (cdv : Value) (A : Around) (o : List Env) (s : Shared) (H : Hp) (vs : List V) (Q : VK) (E : XK), Room k (A.deeper (envOfC qual (defScope st) s.heap.objs.size f cdv)) → A.guards = some [] → sp vs H Q E →
      ∃ t, PSs (cxOf CX P w K mg base N qual (defScope st) f cdv A o s H E) (defBody st) t ∧ t { nx := fun _ H' => Q .non H', rt := Q } (start N vs) H) : FnG P w K mg base CX (k + 1) f fd ps sp := by
  obtain ⟨oc, od, kV, dcV, pm, an, cdv, ct, osl, hfd, lk, hcd⟩ := F.ex
  subst hfd
  refine ⟨len, fun A o s H args us vs Q E hr hg e0 hb r hsp => ?_⟩
  have KX := e0.mod.kin.keeps fun b ob e => (e0.bs b ob e).1
  have nl := e0.mod.nolimit.keeps fun b ob e => (e0.bs b ob e).1
  have kinds : ∀ y ∈ ps.zip us, (defScope st).names.lookup y.1 = some .local ∨ ((defScope st).names.lookup y.1 = some .cell ∧ ((cellsFrom (s.heap.objs.size + 1) (defScope st).names []).lookup y.1).isSome = true) := by
    rintro ⟨n, v⟩ hy
    exact (S.par n (List.of_mem_zip hy).1).imp id fun q => ⟨q, PySem.W.cellsFrom_some _ _ _ (.inl q)⟩
  refine codeAny_call_function hr.depth (KX _ _ lk) rfl S.co S.gen rfl (PySem.W.codeRec_of KX hcd) (hb _ _ _ _ (wpAny_newFunctionEnv_cells S.kind kinds fun env he s1 x => ?_))
  subst he
  obtain ⟨t, ht, hq⟩ := body cdv A o s H vs Q E (hr.deeper _) hg hsp
  refine ⟨nl.keeps x.toInCall.keep, codeAny_func (wpAny_mono (ht.run [] s1 (start N vs) H _ (inv_start S hr.hd e0 (len _ _ _ _ hsp) r x) hq) (fun fl s' hs => ?_) fun _ _ z => z)⟩
  cases fl with
  | ret u =>
    obtain ⟨v, σ', H', J, rv, q⟩ := hs
    exact ⟨v, H', J.os, J.bare, J.base, J.hok, rv, q⟩
  | next =>
    obtain ⟨σ', H', J, q⟩ := hs
    exact ⟨V.non, H', J.os, J.bare, J.base, J.hok, rfl, q⟩
  | brk =>
    obtain ⟨_, _, _, q⟩ := hs
    exact q.elim
  | cont =>
    obtain ⟨_, _, _, q⟩ := hs
    exact q.elim
end
section
variable {X : Cx} {CX : CXT} {k : Nat} {f : Addr} {fd : FuncData} {ps : List Str} {sp : Sp} {E : XK} {x : Str} {p pos : Pos} {e : Expr} {es : List Expr} {t : TA}
theorem callG {pins : List (Addr × Obj)} {σ : L2.St} {H : Hp} {s : Shared} {Q : VK} {us : List Value} {vs : List V} (F : FnG X.prog X.w X.K X.mg X.base CX k f fd ps sp) (hr : Room k X.A) (hg : X.A.guards = some []) (hb : Binds X.K fd ps []) (hx : Passes CX X E)
    (I : Inv X pins σ H s) (r : Vals vs us) (h : sp vs H Q E) : wpAny (model X.prog X.w) X.A (call (.ref f) us) (EP X pins σ Q) X.xe s := by
  have hl : (us ++ []).length = ps.length := by rw [List.append_nil, ← r.length]; exact F.len _ _ _ _ h
  have b := hb s us I.kIn hl
  rw [List.append_nil] at b
  refine wpAny_call (codeAny_mono (F.run X.A X.stack s H ⟨us, []⟩ us vs Q E hr hg I.env0 b r h) fun q s' hq => ?_)
  match q, hq with
  | .error e, hq => exact hx pins σ H s e s' I hq
  | .ok (.ret u), hq => exact I.after hq
  | .ok .next, hq => exact False.elim hq
  | .ok .brk, hq => exact False.elim hq
  | .ok .cont, hq => exact False.elim hq
/-- f(e, ..): a def of the module -/
def tCallG (sp : Sp) (E : XK) (t : TA) : TE := fun σ H Q => t σ H fun vs H1 => sp vs H1 Q E
theorem pe_callG (F : FnG X.prog X.w X.K X.mg X.base CX k f fd ps sp) (hr : Room k X.A) (hgd : X.A.guards = some []) (hg : Gl X x) (hm : X.mg x = some (.ref f)) (hk : PySem.W.keepIn X.K (.ref f) = true) (hb : Binds X.K fd ps []) (hx : Passes CX X E)
    (ha : PA X (e :: es) t) (hdb : (x == ("__debug__" : Str)) = false := by decide) (he : starEach (e :: es) X.env = (false, eval e X.env) :: starEach es X.env := by rfl) (hpl : (backTo pos (starEach es X.env)).any (·.1) = false := by rfl) :
    PE X (.Call (.Name x p) (e :: es) [] pos) (tCallG sp E t) :=
  ⟨fun pins s σ H Q I h => wpAny_Call_Name_kw (ld_glob I hg hm (PySem.W.callWith_K (h₀ := X.base) I.ok.mod.kin hk (thn (ha.run pos pins s σ H _ I h) fun us s1 ⟨vs, H1, I1, r, q⟩ => ⟨I1.kIn, callG F hr hgd hb hx I1 r q⟩) he hpl) hdb)⟩
end

/-! ### promises told of data -/
abbrev DF := List W → Nat → DQ → Prop
/-- what is given back, from the call's heap -/
def Back (g : Gd) (H : Hp) (Q1 : DQ) (Q : VK) : Prop := ∀ d n' v H', Q1 d n' → Ed g.dk H H' → Deck g n' H' → Dq (hw g.h H') v d → Q v H'
def spD (F : DF) : Sp := fun vs H Q _ => ∃ (g : Gd) (n : Nat) (as : List W) (Q1 : DQ), (Deck g n H ∧ Hid g.h H) ∧ WsOk g H vs as ∧ F as n Q1 ∧ Back g H Q1 Q
/-- a new list back -/
abbrev DLQ := List PyData → Nat → Prop
def BackL (g : Gd) (H : Hp) (Q1 : DLQ) (Q : VK) : Prop := ∀ xs n' a vs H', Q1 xs n' → Ed g.dk H H' → Deck g n' H' → H a = none → H' a = some (.lst vs) → DqA (hw g.h H') vs xs → Q (.ref a) H'
abbrev DFL := List W → Nat → DLQ → Prop
def spL (F : DFL) : Sp := fun vs H Q _ => ∃ (g : Gd) (n : Nat) (as : List W) (Q1 : DLQ), (Deck g n H ∧ Hid g.h H) ∧ WsOk g H vs as ∧ F as n Q1 ∧ BackL g H Q1 Q

/-- an expression that gives a new list -/
def LfL (t : TE) (p : List S → Nat → DLQ → Prop) : Prop := ∀ (g : Gd) (H0 : Hp) (σ : L2.St) (H : Hp) (ss : List S) (n : Nat) (w : Addr → Option Nat) (Q : VK) (Q1 : DLQ), Ok g H0 σ H ss n w → p ss n Q1 →
  (∀ xs n' a vs H', Q1 xs n' → Ed g.dk H H' → Ok g H0 σ H' ss n' w → H a = none → H' a = some (.lst vs) → DqA (hw g.h H') vs xs → Q (.ref a) H') → t σ H Q
abbrev DL := List S → Nat → DLQ → Prop
structure PLL (X : Cx) (e : Expr) (t : TE) (p : DL) : Prop where
  pe : PE X e t
  lf : LfL t p
theorem free_of {dk : Addr} {H H' : Hp} (e : Ed dk H H') (hd : H' dk ≠ none) {a : Addr} (h : H' a = none) : H a = none := by
  cases q : H a with
  | none => rfl
  | some o =>
    by_cases z : a = dk
    · subst z
      exact absurd h hd
    · rw [e a o z q] at h
      cases h
section
variable {X : Cx} {e a b c : Expr} {es : List Expr} {t ta tb tc : TE} {tt tu : TT} {tA : TA} {p pa pb pc : DE} {pt pu : DT} {pA : DA} {pos apos : Pos} {k : Nat} {f : Addr} {fd : FuncData} {ps : List Str} {x : Str} {p0 : Pos}
def dFn (F : DF) (pA : DA) : DE := fun ss n Q => pA ss n fun as n' => F as n' Q
theorem l_fn {F : DF} (G : FnG X.prog X.w X.K X.mg X.base CX0 k f fd ps (spD F)) (hr : Room k X.A) (hgd : X.A.guards = some []) (hg : Gl X x) (hm : X.mg x = some (.ref f)) (hk : PySem.W.keepIn X.K (.ref f) = true) (hb : Binds X.K fd ps [])
    (ha : PLA X (e :: es) tA pA) (hdb : (x == ("__debug__" : Str)) = false := by decide) (he : starEach (e :: es) X.env = (false, eval e X.env) :: starEach es X.env := by rfl) (hpl : (backTo pos (starEach es X.env)).any (·.1) = false := by rfl) :
    PL X (.Call (.Name x p0) (e :: es) [] pos) (tCallG (spD F) E0 tA) (dFn F pA) := ⟨pe_callG G hr hgd hg hm hk hb pass0 ha.pa hdb he hpl, fun g H0 σ H ss n w Q Q1 k hp q => ha.lf g H0 σ H ss n w _ _ k hp fun as n' vs H1 h1 e1 k1 r1 =>
  ⟨g, n', as, Q1, ⟨k1.deck, k1.hd⟩, r1, h1, fun d n2 v H2 h2 e2 d2 r2 => q d n2 v H2 h2 (e1.trans e2) (k1.step e2 d2) r2⟩⟩
def dFnL (F : DFL) (pA : DA) : DL := fun ss n Q => pA ss n fun as n' => F as n' Q
theorem f_fn {F : DFL} (G : FnG X.prog X.w X.K X.mg X.base CX0 k f fd ps (spL F)) (hr : Room k X.A) (hgd : X.A.guards = some []) (hg : Gl X x) (hm : X.mg x = some (.ref f)) (hk : PySem.W.keepIn X.K (.ref f) = true) (hb : Binds X.K fd ps [])
    (ha : PLA X (e :: es) tA pA) (hdb : (x == ("__debug__" : Str)) = false := by decide) (he : starEach (e :: es) X.env = (false, eval e X.env) :: starEach es X.env := by rfl) (hpl : (backTo pos (starEach es X.env)).any (·.1) = false := by rfl) :
    PLL X (.Call (.Name x p0) (e :: es) [] pos) (tCallG (spL F) E0 tA) (dFnL F pA) := ⟨pe_callG G hr hgd hg hm hk hb pass0 ha.pa hdb he hpl, fun g H0 σ H ss n w Q Q1 k hp q => ha.lf g H0 σ H ss n w _ _ k hp fun as n' vs H1 h1 e1 k1 r1 =>
  ⟨g, n', as, Q1, ⟨k1.deck, k1.hd⟩, r1, h1, fun xs n2 a us H2 h2 e2 d2 fa h r2 => q xs n2 a us H2 h2 (e1.trans e2) (k1.step e2 d2) (free_of e1 (ne_dk k1.deck) fa) h r2⟩⟩
/-- a new list as any value -/
def dOfL (p : DL) : DE := fun ss n Q => p ss n fun xs n' => Q (.list xs) n'
theorem ne_free {g : Gd} {n : Nat} {H : Hp} (d : Deck g n H) {a : Addr} (h : H a = none) : a ≠ g.dk := fun z => ne_dk d (by rw [← z]; exact h)
theorem l_L {pl : DL} (h : PLL X e t pl) : PL X e t (dOfL pl) := ⟨h.pe, fun g H0 σ H ss n w Q Q1 k hp q => h.lf g H0 σ H ss n w _ _ k hp fun xs n' a vs H' h1 e1 k1 f1 g1 r1 =>
  q _ _ _ _ h1 e1 k1 (.lst (hw_some.mpr ⟨k.hd.none f1, g1⟩) r1)⟩
def dLstL (p : DA) : DL := fun ss n Q => p ss n fun as n' => onD as fun ds => ds.length ≤ sizeLine ∧ Q ds n'
theorem f_lst (h : PLA X es tA pA) : PLL X (.List es pos) (tLst tA) (dLstL pA) := ⟨pe_lst h.pa, fun g H0 σ H ss n w Q Q1 k hp q => h.lf g H0 σ H ss n w _ _ k hp fun as n' vs H' h1 e1 k1 r1 => by
  obtain ⟨ds, e, h2, h3⟩ := onD_some h1
  have r := datas_ok r1 e
  refine ⟨by rw [r.len]; exact h2, fun p hp => ?_⟩
  have g1 := same_new (.lst vs) hp
  exact q _ _ _ _ _ h3 (e1.trans (Ed.of g1)) (k1.same g1) (free_of e1 (ne_dk k1.deck) hp) upd_same (r.same (hw_same g1))⟩
/-- xs + ys -/
def dAddL (pa pb : DE) : DL := fun ss n Q => pa ss n fun d n1 => pb ss n1 fun e n2 => ∃ xs ys, d = .list xs ∧ e = .list ys ∧ xs.length + ys.length ≤ sizeLine ∧ Q (xs ++ ys) n2
theorem f_add (ha : PL X a ta pa) (hb : PL X b tb pb) : PLL X (.BinOp a .Add b pos) (tOp rCat ta tb) (dAddL pa pb) := ⟨pe_op op_cat ha.pe hb.pe, fun g H0 σ H ss n w Q Q1 k h q =>
  ha.lf g H0 σ H ss n w _ _ k h fun d n1 v H1 h1 e1 k1 r1 => hb.lf g H0 σ H1 ss n1 w _ _ k1 h1 fun e n2 u H2 h2 e2 k2 r2 => by
    obtain ⟨xs, ys, rfl, rfl, h3, h4⟩ := h2
    have r1 := r1.same (h0_ed e2)
    cases r1 with
    | @lst a vs ds ha hA =>
      cases r2 with
      | @lst b us es hb hB =>
        refine ⟨a, b, vs, us, rfl, rfl, hsub ha, hsub hb, by rw [hA.len, hB.len]; exact h3, fun p hp => ?_⟩
        have g1 := same_new (.lst (vs ++ us)) hp
        exact q _ _ _ _ _ h4 ((e1.trans e2).trans (Ed.of g1)) (k2.same g1) (free_of (e1.trans e2) (ne_dk k2.deck) hp) upd_same ((hA.app hB).same (hw_same g1))⟩
/-- xs * k -/
def dMulL (pa pb : DE) : DL := fun ss n Q => pa ss n fun d n1 => pb ss n1 fun e n2 => ∃ xs k, d = .list xs ∧ e = .int k ∧ -(2 ^ 63) ≤ k ∧ k < 2 ^ 63 ∧ xs.length * k.toNat ≤ sizeLine ∧ Q (List.replicate k.toNat xs).flatten n2
theorem f_mul (ha : PL X a ta pa) (hb : PL X b tb pb) : PLL X (.BinOp a .Mult b pos) (tOp rRep ta tb) (dMulL pa pb) := ⟨pe_op op_rep ha.pe hb.pe, fun g H0 σ H ss n w Q Q1 k h q =>
  ha.lf g H0 σ H ss n w _ _ k h fun d n1 v H1 h1 e1 k1 r1 => hb.lf g H0 σ H1 ss n1 w _ _ k1 h1 fun e n2 u H2 h2 e2 k2 r2 => by
    obtain ⟨xs, i, rfl, rfl, h3, h4, h5, h6⟩ := h2
    have r1 := r1.same (h0_ed e2)
    cases r2
    cases r1 with
    | @lst a vs ds ha hA =>
      refine ⟨a, i, vs, rfl, rfl, hsub ha, h3, h4, by rw [hA.len]; exact h5, fun p hp => ?_⟩
      have g1 := same_new (.lst (List.replicate i.toNat vs).flatten) hp
      exact q _ _ _ _ _ h6 ((e1.trans e2).trans (Ed.of g1)) (k2.same g1) (free_of (e1.trans e2) (ne_dk k2.deck) hp) upd_same ((hA.rep _).same (hw_same g1))⟩

/-! ### what may be kept in a slot -/
mutual
def NL : PyData → Bool
  | .list _ => false
  | .dict _ => false
  | .tuple xs => NLA xs
  | _ => true
def NLA : List PyData → Bool
  | [] => true
  | x :: r => NL x && NLA r
end
theorem NLA_all : ∀ {xs : List PyData}, NLA xs = true ↔ ∀ x ∈ xs, NL x = true
  | [] => by simp [NLA]
  | x :: r => by simp [NLA, NLA_all (xs := r)]
mutual
theorem Dq.nl {w w' : Addr → Option Nat} {H : Hp} (hl : ∀ a vs, H a = some (.tup vs) → w' a = none) : ∀ {v : V} {d : PyData}, Dq (hw w H) v d → NL d = true → Dq (hw w' H) v d
  | _, _, .non, _ => .non
  | _, _, .bl b, _ => .bl b
  | _, _, .int i, _ => .int i
  | _, _, .str x, _ => .str x
  | _, _, .lst h q, e => by simp [NL] at e
  | _, _, .tup h q, e => .tup (hw_some.mpr ⟨hl _ _ (hsub h), hsub h⟩) (DqA.nl hl q (by simpa [NL] using e))
theorem DqA.nl {w w' : Addr → Option Nat} {H : Hp} (hl : ∀ a vs, H a = some (.tup vs) → w' a = none) : ∀ {v : List V} {d : List PyData}, DqA (hw w H) v d → NLA d = true → DqA (hw w' H) v d
  | _, _, .nil, _ => .nil
  | _, d :: ds, .cons h q, e => by
    have e : NL d = true ∧ NLA ds = true := by simpa [NLA] using e
    exact .cons (Dq.nl hl h e.1) (DqA.nl hl q e.2)
end
def isOwn : S → Bool
  | .own _ => true
  | _ => false
def noOwn (ss : List S) : Bool := !ss.any isOwn
section
variable {g : Gd} {H0 H H' : Hp} {σ : L2.St} {ss : List S} {n n' : Nat} {w : Addr → Option Nat}
theorem Ok.tups (k : Ok g H0 σ H ss n w) {a : Addr} {vs : List V} (h : H a = some (.tup vs)) : w a = none := by
  cases q : w a with
  | none => rfl
  | some i =>
    rcases k.hid a (by rw [q]; rfl) with z | ⟨_, _, j, xs, h1, h2, h3⟩
    · obtain ⟨vs, z⟩ := k.hd a z
      rw [h] at z
      cases z
    · obtain ⟨b, us, e1, _, _, e2, _⟩ := k.sl j _ h2
      rw [h3] at e1
      cases e1
      rw [h] at e2
      cases e2
theorem Ok.bare (k : Ok g H0 σ H ss n w) (h : noOwn ss = true) : Same (hw g.h H) (hw w H) := fun a o q => by
  obtain ⟨q1, q2⟩ := hw_some.mp q
  refine hw_some.mpr ⟨?_, q2⟩
  cases z : w a with
  | none => rfl
  | some i =>
    rcases k.hid a (by rw [z]; rfl) with e | ⟨_, _, j, xs, _, h2, _⟩
    · rw [q1] at e
      cases e
    · have hm : S.own xs ∈ ss := List.mem_of_getElem? h2
      unfold noOwn at h
      rw [List.any_eq_true.mpr ⟨_, hm, rfl⟩] at h
      cases h
theorem Ok.strong (k : Ok g H0 σ H ss n w) {v : V} {d : PyData} (r : Dq (hw g.h H) v d) (h : NL d = true ∨ noOwn ss = true) : Dq (hw w H) v d := h.elim (fun h => r.nl (fun a vs e => k.tups e) h) fun h => r.same (k.bare h)
theorem Ok.strongA (k : Ok g H0 σ H ss n w) {v : List V} {d : List PyData} (r : DqA (hw g.h H) v d) (h : NLA d = true ∨ noOwn ss = true) : DqA (hw w H) v d := h.elim (fun h => r.nl (fun a vs e => k.tups e) h) fun h => r.same (k.bare h)
/-- the owner i gives up what it hid -/
def drp (w h : Addr → Option Nat) (i : Nat) : Addr → Option Nat := fun a => if h a = none ∧ w a = some i then none else w a
theorem drp_same {h : Addr → Option Nat} {i : Nat} : Same (hw w H) (hw (drp w h i) H) := fun a o q => by
  obtain ⟨q1, q2⟩ := hw_some.mp q
  refine hw_some.mpr ⟨?_, q2⟩
  unfold drp
  rw [q1]
  split <;> rfl
theorem drp_ext {h : Addr → Option Nat} {i : Nat} (e : ∀ a, (h a).isSome → (w a).isSome) : ∀ a, (h a).isSome → (drp w h i a).isSome := fun a q => by
  unfold drp
  rw [if_neg fun z => by rw [z.1] at q; cases q]
  exact e a q
theorem drp_some {h : Addr → Option Nat} {a : Addr} {i j : Nat} (e : drp w h i a = some j) : w a = some j ∧ ((h a).isSome ∨ j ≠ i) := by
  unfold drp at e
  split at e
  · cases e
  · rename_i z
    refine ⟨e, ?_⟩
    cases q : h a with
    | some x => exact .inl rfl
    | none => exact .inr fun z2 => z ⟨q, by rw [e, z2]⟩
theorem drp_of {h : Addr → Option Nat} {a : Addr} {i j : Nat} (e : w a = some j) (hn : j ≠ i) : drp w h i a = some j := by
  unfold drp
  rw [if_neg fun z => hn (by have := z.2; rw [e] at this; exact Option.some.inj this)]
  exact e
/-- data into a slot -/
theorem Ok.put (k : Ok g H0 σ H ss n w) {i : Nat} {v : V} {d : PyData} (r : Dq (hw w H) v d) : Ok g H0 (σ.set i (some v)) H (ss.set i (.d d)) n (drp w g.h i) := by
  refine ⟨by rw [List.length_set, List.length_set, k.len], k.ed, k.deck, drp_ext k.ext, k.hx, fun a ha => ?_, fun j s hs => ?_⟩
  · obtain ⟨j, hj⟩ := Option.isSome_iff_exists.mp ha
    obtain ⟨h1, h2⟩ := drp_some hj
    rcases h2 with h2 | h2
    · exact .inl h2
    · rcases k.hid a (by rw [h1]; rfl) with e | ⟨f1, f2, j', xs, h3, h4, h5⟩
      · exact .inl e
      · have : j' = j := Option.some.inj (h3.symm.trans h1)
        subst this
        exact .inr ⟨f1, f2, j', xs, hj, by rw [List.getElem?_set_ne (Ne.symm h2)]; exact h4, by rw [List.getElem?_set_ne (Ne.symm h2)]; exact h5⟩
  · by_cases e : i = j
    · subst e
      by_cases hl : i < ss.length
      · rw [List.getElem?_set_self hl] at hs
        cases hs
        exact ⟨v, List.getElem?_set_self (by rw [← k.len]; exact hl), r.same drp_same⟩
      · rw [List.getElem?_eq_none (by rw [List.length_set]; omega)] at hs
        cases hs
    · rw [List.getElem?_set_ne e] at hs
      rw [List.getElem?_set_ne e]
      have q := k.sl j s hs
      cases s with
      | d x => obtain ⟨v, h1, h2⟩ := q; exact ⟨v, h1, h2.same drp_same⟩
      | own xs => obtain ⟨a, vs, h1, h2, h3, h4, h5⟩ := q; exact ⟨a, vs, h1, drp_of h2 (Ne.symm e), h3, h4, h5.same drp_same⟩
      | dk => exact q
      | un => trivial
/-- a new list into a slot: the def's own from then on -/
def own1 (w : Addr → Option Nat) (a : Addr) (i : Nat) : Addr → Option Nat := fun b => if b = a then some i else w b
theorem hw_own1 {a : Addr} {i : Nat} {H1 : Hp} (hn : H1 a = none) (e : Same (hw w H1) (hw w H)) : Same (hw w H1) (hw (own1 w a i) H) := fun b o q => by
  have hb : b ≠ a := fun z => by
    rw [z] at q
    rw [(hw_some.mp q).2] at hn
    cases hn
  obtain ⟨q1, q2⟩ := hw_some.mp (e b o q)
  refine hw_some.mpr ⟨?_, q2⟩
  unfold own1
  rw [if_neg hb]
  exact q1
end
end
end Ev

namespace Ev
open PySem PySem.Spec PyProof.Rows L2
section
variable {g : Gd} {H0 H H' : Hp} {σ : L2.St} {ss : List S} {n n' : Nat} {w : Addr → Option Nat}
theorem Ok.putL (k : Ok g H0 σ H ss n w) {i : Nat} {a : Addr} {vs : List V} {xs : List PyData} (h0 : H0 a = none) (hc : a ≠ g.c) (hd : g.h a = none) (hi : i < ss.length) (hw0 : w a = none) (h : H a = some (.lst vs)) (r : DqA (hw (own1 w a i) H) vs xs)
    (hs : ∀ j x, ss[j]? = some (.d x) → j ≠ i → ∃ v, σ[j]? = some (some v) ∧ Dq (hw (own1 w a i) H) v x) (hl : ∀ j us b zs, ss[j]? = some (.own us) → j ≠ i → σ[j]? = some (some (.ref b)) → H b = some (.lst zs) → DqA (hw w H) zs us → DqA (hw (own1 w a i) H) zs us) :
    Ok g H0 (σ.set i (some (.ref a))) H (ss.set i (.own xs)) n (own1 (drp w g.h i) a i) := by
  have hsub : Same (hw (own1 w a i) H) (hw (own1 (drp w g.h i) a i) H) := fun b o q => by
    obtain ⟨q1, q2⟩ := hw_some.mp q
    refine hw_some.mpr ⟨?_, q2⟩
    unfold own1 at q1 ⊢
    by_cases e : b = a
    · rw [if_pos e] at q1
      cases q1
    · rw [if_neg e] at q1 ⊢
      unfold drp
      split
      · rfl
      · exact q1
  have hme : own1 (drp w g.h i) a i a = some i := by unfold own1; rw [if_pos rfl]
  have hne : ∀ {b : Addr}, b ≠ a → own1 (drp w g.h i) a i b = drp w g.h i b := fun {b} e => by unfold own1; rw [if_neg e]
  refine ⟨by rw [List.length_set, List.length_set, k.len], k.ed, k.deck, (fun b hb => by
    by_cases e : b = a
    · rw [e, hme]; rfl
    · rw [hne e]; exact drp_ext k.ext b hb), k.hx, fun b hb => ?_, fun j s hj => ?_⟩
  · by_cases e : b = a
    · subst e
      exact .inr ⟨h0, hc, i, xs, hme, List.getElem?_set_self hi, List.getElem?_set_self (by rw [← k.len]; exact hi)⟩
    · rw [hne e] at hb ⊢
      obtain ⟨j, hj⟩ := Option.isSome_iff_exists.mp hb
      obtain ⟨h1, h2⟩ := drp_some hj
      rcases h2 with h2 | h2
      · exact .inl h2
      · rcases k.hid b (by rw [h1]; rfl) with e | ⟨f1, f2, j', xs, h3, h4, h5⟩
        · exact .inl e
        · have : j' = j := Option.some.inj (h3.symm.trans h1)
          subst this
          exact .inr ⟨f1, f2, j', xs, hj, by rw [List.getElem?_set_ne (Ne.symm h2)]; exact h4, by rw [List.getElem?_set_ne (Ne.symm h2)]; exact h5⟩
  · by_cases e : i = j
    · subst e
      rw [List.getElem?_set_self hi] at hj
      cases hj
      exact ⟨a, vs, List.getElem?_set_self (by rw [← k.len]; exact hi), hme, hd, h, r.same hsub⟩
    · rw [List.getElem?_set_ne e] at hj
      rw [List.getElem?_set_ne e]
      have q := k.sl j s hj
      cases s with
      | d x =>
        obtain ⟨v, h1, h2⟩ := hs j x hj (Ne.symm e)
        exact ⟨v, h1, h2.same hsub⟩
      | own us =>
        obtain ⟨b, zs, h1, h2, h3, h4, h5⟩ := q
        have hba : b ≠ a := fun z => by
          rw [z, hw0] at h2
          cases h2
        exact ⟨b, zs, h1, by rw [hne hba]; exact drp_of h2 (Ne.symm e), h3, h4, (hl j us b zs hj (Ne.symm e) h1 h4 h5).same hsub⟩
      | dk => exact q
      | un => trivial
/-- .. a list that the state ahead did not have -/
theorem Ok.putNew {H1 : Hp} (k1 : Ok g H0 σ H1 ss n w) (e : Ed g.dk H1 H) (k : Ok g H0 σ H ss n' w) {i : Nat} {a : Addr} {vs : List V} {xs : List PyData} (hi : i < ss.length) (hn : H1 a = none) (h : H a = some (.lst vs)) (r : DqA (hw g.h H) vs xs)
    (hx : NLA xs = true ∨ (noOwn ss = true ∧ DqA (hw g.h H1) vs xs)) : Ok g H0 (σ.set i (some (.ref a))) H (ss.set i (.own xs)) n' (own1 (drp w g.h i) a i) ∧ Same (hw w H1) (hw (own1 (drp w g.h i) a i) H) := by
  have hs := hw_own1 (i := i) hn (hw_ed k1.wdk e)
  have hw0 := k1.free hn
  have hd : g.h a = none := k1.hd.none hn
  have hc : a ≠ g.c := fun z => by
    obtain ⟨_, _, q, _⟩ := k1.deck
    rw [← z, hn] at q
    cases q
  have h0 : H0 a = none := free_of k1.ed (ne_dk k1.deck) hn
  have hsub : Same (hw (own1 w a i) H) (hw (own1 (drp w g.h i) a i) H) := fun b o q => by
    obtain ⟨q1, q2⟩ := hw_some.mp q
    refine hw_some.mpr ⟨?_, q2⟩
    unfold own1 at q1 ⊢
    by_cases e : b = a
    · rw [if_pos e] at q1
      cases q1
    · rw [if_neg e] at q1 ⊢
      unfold drp
      split
      · rfl
      · exact q1
  refine ⟨k.putL h0 hc hd hi hw0 h ?_ (fun j x hj _ => ?_) (fun j us b zs hj _ hb hz hq => ?_), fun b o q => hsub b o (hs b o q)⟩
  · rcases hx with hx | ⟨hx, hx2⟩
    · refine r.nl (fun b us hb => ?_) hx
      unfold own1
      by_cases e : b = a
      · rw [e, h] at hb
        cases hb
      · rw [if_neg e]
        exact k.tups hb
    · exact (hx2.same (k1.bare hx)).same hs
  · obtain ⟨v, h1, h2⟩ := k1.sl j _ hj
    exact ⟨v, h1, h2.same hs⟩
  · obtain ⟨b1, vs1, h1, h2, h3, h4, h5⟩ := k1.sl j _ hj
    rw [hb] at h1
    cases h1
    have := e _ _ (Gd.ne h3) h4
    rw [hz] at this
    cases this
    exact h5.same hs
/-- the own list of slot i turns -/
theorem Ok.turn (k : Ok g H0 σ H ss n w) {i : Nat} {a : Addr} {vs vs' : List V} {xs : List PyData} (hi : i < ss.length) (hs : σ[i]? = some (some (.ref a))) (hwa : w a = some i) (hd : g.h a = none) (h : H a = some (.lst vs)) (r : DqA (hw w H) vs' xs) :
    Ok g H0 σ (upd H a (.lst vs')) (ss.set i (.own xs)) n w ∧ Same (hw w H) (hw w (upd H a (.lst vs'))) := by
  have hsm : Same (hw w H) (hw w (upd H a (.lst vs'))) := fun b o q => by
    obtain ⟨q1, q2⟩ := hw_some.mp q
    have hb : b ≠ a := fun z => by rw [z, hwa] at q1; cases q1
    exact hw_some.mpr ⟨q1, by rw [upd_ne hb]; exact q2⟩
  obtain ⟨hid0, hid1, hid2⟩ : H0 a = none ∧ a ≠ g.c ∧ True := by
    rcases k.hid a (by rw [hwa]; rfl) with e | ⟨f1, f2, _⟩
    · rw [hd] at e
      cases e
    · exact ⟨f1, f2, trivial⟩
  refine ⟨⟨by rw [List.length_set, k.len], fun b o hb q => ?_, ?_, k.ext, k.hx, fun b hb => ?_, fun j s hj => ?_⟩, hsm⟩
  · have : b ≠ a := fun z => by rw [z, hid0] at q; cases q
    rw [upd_ne this]
    exact k.ed b o hb q
  · obtain ⟨h1, h2, h3, p, q, h4, h5⟩ := k.deck
    exact ⟨h1, h2, by rw [upd_ne (Ne.symm hid1)]; exact h3, p, q, h4, by rw [upd_ne (Ne.symm (Gd.ne hd))]; exact h5⟩
  · rcases k.hid b hb with e | ⟨f1, f2, j, us, h3, h4, h5⟩
    · exact .inl e
    · by_cases e : i = j
      · subst e
        exact .inr ⟨f1, f2, i, xs, h3, List.getElem?_set_self hi, h5⟩
      · exact .inr ⟨f1, f2, j, us, h3, by rw [List.getElem?_set_ne e]; exact h4, h5⟩
  · by_cases e : i = j
    · subst e
      rw [List.getElem?_set_self hi] at hj
      cases hj
      exact ⟨a, vs', hs, hwa, hd, upd_same, r.same hsm⟩
    · rw [List.getElem?_set_ne e] at hj
      have q := k.sl j s hj
      cases s with
      | d x => obtain ⟨v, h1, h2⟩ := q; exact ⟨v, h1, h2.same hsm⟩
      | own us =>
        obtain ⟨b, zs, h1, h2, h3, h4, h5⟩ := q
        have hb : b ≠ a := fun z => by rw [z, hwa] at h2; exact e (Option.some.inj h2)
        exact ⟨b, zs, h1, h2, h3, by rw [upd_ne hb]; exact h4, h5.same hsm⟩
      | dk => exact q
      | un => trivial
end

/-! ### statements -/
structure DEnds where
  nx : List S → Nat → Prop
  rt : DQ
  bk : List S → Nat → Prop := fun _ _ => False
  ct : List S → Nat → Prop := fun _ _ => False
  rl : List PyData → Nat → Prop := fun _ _ => False
  /-- raised: the class's name, the error's one field -/
  rx : Str → PyData → Nat → Prop := fun _ _ _ => False
  /-- names of classes: where they stand, their errors' field -/
  cl : Str → Addr → Str → Prop := fun _ _ _ => False
  E : XK := fun _ _ _ => False
abbrev DS := DEnds → List S → Nat → Prop
/-- what follows, from a state with the visible heap Hv: told of data, it stands -/
def Nx (g : Gd) (H0 : Hp) (Hv : Hp) (q : List S → Nat → Prop) (Q : L2.St → Hp → Prop) : Prop := ∀ σ H ss n w, Ok g H0 σ H ss n w → Same Hv (hw w H) → q ss n → Q σ H
structure EndsOk (g : Gd) (H0 : Hp) (Hv : Hp) (DD : DEnds) (D : Ends) : Prop where
  nx : Nx g H0 Hv DD.nx D.nx
  bk : Nx g H0 Hv DD.bk D.bk
  ct : Nx g H0 Hv DD.ct D.ct
  rt : ∀ v H d n, Ed g.dk H0 H → Deck g n H → Dq (hw g.h H) v d → DD.rt d n → D.rt v H
  rl : ∀ a vs H xs n, Ed g.dk H0 H → Deck g n H → H0 a = none → H a = some (.lst vs) → DqA (hw g.h H) vs xs → DD.rl xs n → D.rt (.ref a) H
  rx : ∀ c x n C f d v H, DD.rx c x n → DD.cl c C f → Ed g.dk H0 H → Deck g n H → H0 d = none → H d = some (.xd [(f, v)]) → Dq (hw g.h H) v x → DD.E (.ref C) (some d) H
theorem Nx.mono {g : Gd} {H0 Hv Hv' : Hp} {q : List S → Nat → Prop} {Q : L2.St → Hp → Prop} (h : Nx g H0 Hv q Q) (e : Same Hv Hv') : Nx g H0 Hv' q Q := fun σ H ss n w k s => h σ H ss n w k (e.trans s)
theorem EndsOk.mono {g : Gd} {H0 Hv Hv' : Hp} {DD : DEnds} {D : Ends} (h : EndsOk g H0 Hv DD D) (e : Same Hv Hv') : EndsOk g H0 Hv' DD D := ⟨h.nx.mono e, h.bk.mono e, h.ct.mono e, h.rt, h.rl, h.rx⟩
def LfS (t : TS) (p : DS) : Prop := ∀ (g : Gd) (H0 : Hp) (σ : L2.St) (H : Hp) (ss : List S) (n : Nat) (w : Addr → Option Nat) (D : Ends) (DD : DEnds), Ok g H0 σ H ss n w → p DD ss n → EndsOk g H0 (hw w H) DD D → t D σ H
structure PLS (X : Cx) (st : Stmt) (t : TS) (p : DS) : Prop where
  ps : PS X st t
  lf : LfS t p
structure PLB (X : Cx) (st : List Stmt) (t : TS) (p : DS) : Prop where
  ps : PSs X st t
  lf : LfS t p
section
variable {X : Cx} {e a b c : Expr} {es : List Expr} {t ta tb tc : TE} {tt tu : TT} {tA : TA} {p pa pb pc : DE} {pt pu : DT} {pA : DA} {pos apos : Pos} {st : Stmt} {sts sts' : List Stmt} {ts tz : TS} {q r : DS}
def dSeq (q r : DS) : DS := fun DD ss n => q { DD with nx := r DD } ss n
theorem lf_seq (h1 : LfS ts q) (h2 : LfS tz r) : LfS (tSeq ts tz) (dSeq q r) := fun g H0 σ H ss n w D DD k h E =>
  h1 g H0 σ H ss n w _ _ k h ⟨fun σ' H' ss' n' w' k' s h' => h2 g H0 σ' H' ss' n' w' _ _ k' h' (E.mono s), E.bk, E.ct, E.rt, E.rl, E.rx⟩
theorem b_cons (h1 : PLS X st ts q) (h2 : PLB X sts tz r) : PLB X (st :: sts) (tSeq ts tz) (dSeq q r) := ⟨pss_cons h1.ps h2.ps, lf_seq h1.lf h2.lf⟩
theorem b_one (h1 : PLS X st ts q) : PLB X [st] ts q := ⟨pss_one h1.ps, h1.lf⟩
def dNext : DS := fun DD ss n => DD.nx ss n
theorem b_nil : PLB X [] tNext dNext := ⟨pss_nil, fun g H0 σ H ss n w D DD k h E => E.nx _ _ _ _ _ k (Same.refl _) h⟩
/-- x = e, data -/
def canD (ss : List S) (d : PyData) : Prop := NL d = true ∨ noOwn ss = true
def dSet (i : Nat) (p : DE) : DS := fun DD ss n => p ss n fun d n' => canD ss d ∧ DD.nx (ss.set i (.d d)) n'
theorem s_set {i : Nat} {x : Str} {pos' : Pos} (hN : X.N.Nodup) (hi : X.N[i]? = some x) (hx : L2.Loc X.env.scope x) (he : PL X e ta pa) (hsw : swapsWith e (some (.Name x pos')) pos.line X.env = pure false := by rfl)
    (hf : X.fn x = true ∨ X.env.scope.names.lookup x = some .local := by first | exact .inl rfl | exact .inr rfl) : PLS X (.Assign [.Name x pos'] e pos) (tAsg ta (gName i)) (dSet i pa) :=
  ⟨ps_set hN hi hx he.pe hsw hf, fun g H0 σ H ss n w D DD k h E => he.lf g H0 σ H ss n w _ _ k h fun d n' v H' h1 e1 k1 r1 =>
    E.nx _ _ _ _ _ (k1.put (k1.strong r1 h1.1)) (fun b o q => drp_same _ _ (hw_ed k.wdk e1 b o q)) h1.2⟩
/-- x = a new list -/
def dSetL (i : Nat) (p : DL) : DS := fun DD ss n => p ss n fun xs n' => i < ss.length ∧ NLA xs = true ∧ DD.nx (ss.set i (.own xs)) n'
theorem lf_setL {i : Nat} {pl : DL} (h : LfL t pl) : LfS (tAsg t (gName i)) (dSetL i pl) := fun g H0 σ H ss n w D DD k hp E => h g H0 σ H ss n w _ _ k hp fun xs n' a vs H' h1 e1 k1 f1 g1 r1 => by
  obtain ⟨k2, s2⟩ := Ok.putNew k e1 k1 h1.1 f1 g1 r1 (.inl h1.2.1)
  exact E.nx _ _ _ _ _ k2 s2 h1.2.2
theorem s_setL {i : Nat} {x : Str} {pos' : Pos} {pl : DL} (hN : X.N.Nodup) (hi : X.N[i]? = some x) (hx : L2.Loc X.env.scope x) (he : PLL X e ta pl) (hsw : swapsWith e (some (.Name x pos')) pos.line X.env = pure false := by rfl)
    (hf : X.fn x = true ∨ X.env.scope.names.lookup x = some .local := by first | exact .inl rfl | exact .inr rfl) : PLS X (.Assign [.Name x pos'] e pos) (tAsg ta (gName i)) (dSetL i pl) := ⟨ps_set hN hi hx he.pe hsw hf, lf_setL he.lf⟩
/-- return -/
def dRet (p : DE) : DS := fun DD ss n => p ss n fun d n' => DD.rt d n'
theorem s_ret (he : PL X e ta pa) : PLS X (.Return (some e) pos) (tRet ta) (dRet pa) := ⟨ps_ret he.pe, fun g H0 σ H ss n w D DD k h E => he.lf g H0 σ H ss n w _ _ k h fun d n' v H' h1 e1 k1 r1 => E.rt v H' d n' k1.ed k1.deck r1 h1⟩
/-- return x, a list of the def's own; return a new list -/
def dRetO (i : Nat) : DS := fun DD ss n => ∃ xs, ss[i]? = some (.own xs) ∧ DD.rl xs n
theorem s_retO {i : Nat} {x : Str} {p1 : Pos} (ho : PL X (.Name x p1) (tVar i) (dVar i)) : PLS X (.Return (some (.Name x p1)) pos) (tRet (tVar i)) (dRetO i) := ⟨ps_ret ho.pe, fun g H0 σ H ss n w D DD k h E => by
  obtain ⟨xs, hx, h⟩ := h
  obtain ⟨a, vs, h1, h2, h3, h4, h5⟩ := k.sl i _ hx
  have h0 : H0 a = none := by
    rcases k.hid a (by rw [h2]; rfl) with e | ⟨f1, _⟩
    · rw [h3] at e
      cases e
    · exact f1
  exact ⟨_, h1, E.rl a vs H xs n k.ed k.deck h0 h4 (h5.same (hw_h0 k.ext)) h⟩⟩
def dRetL (p : DL) : DS := fun DD ss n => p ss n fun xs n' => DD.rl xs n'
theorem s_retL {pl : DL} (he : PLL X e ta pl) : PLS X (.Return (some e) pos) (tRet ta) (dRetL pl) := ⟨ps_ret he.pe, fun g H0 σ H ss n w D DD k h E => he.lf g H0 σ H ss n w _ _ k h fun xs n' a vs H' h1 e1 k1 f1 g1 r1 =>
  E.rl a vs H' xs n' k1.ed k1.deck (free_of k.ed (ne_dk k.deck) f1) g1 r1 h1⟩
def dIfS (pt : DT) (q r : DS) : DS := fun DD ss n => pt ss n fun b n' => if b = true then q DD ss n' else r DD ss n'
theorem s_if (hc : PLT X c tt pt) (h1 : PLB X sts ts q) (h2 : PLB X sts' tz r) : PLS X (.If c sts sts' pos) (tIfS tt ts tz) (dIfS pt q r) := ⟨ps_if hc.pt h1.ps h2.ps, fun g H0 σ H ss n w D DD k h E => hc.lf g H0 σ H ss n w _ _ k h fun b n' H' h1' e1 k1 => by
  have E1 := E.mono (hw_ed k.wdk e1)
  cases b with
  | true =>
    rw [if_pos rfl] at h1' ⊢
    exact h1.lf g H0 σ H' ss n' w _ _ k1 h1' E1
  | false =>
    rw [if_neg Bool.false_ne_true] at h1' ⊢
    exact h2.lf g H0 σ H' ss n' w _ _ k1 h1' E1⟩
/-- x.append(e), x a list of the def's own -/
def dApp (i : Nat) (p : DE) : DS := fun DD ss n => ∃ xs, ss[i]? = some (.own xs) ∧ p ss n fun d n' => xs.length < sizeLine ∧ NL d = true ∧ DD.nx (ss.set i (.own (xs ++ [d]))) n'
theorem lt_of_get {α : Type} {l : List α} {i : Nat} {x : α} (h : l[i]? = some x) : i < l.length := (List.getElem?_eq_some_iff.mp h).1
theorem s_app {i : Nat} {x : Str} {p1 p2 p3 : Pos} (ho : PL X (.Name x p1) (tVar i) (dVar i)) (he : PL X e ta pa) (hfew : ((backTo p3 (starEach [e] X.env)).all (fun x => !x.1) && (backToKw p3 (keywordEach [] X.env)).all (fun x => x.1.isSome)
      && decide (([e] : List Expr).length + ([] : List Keyword).length + (if ([] : List Keyword).isEmpty then 0 else 1) < 30)) = true := by rfl) (hbase : attributeBase (.Name x p1) "append" X.env (eval (.Name x p1) X.env) = eval (.Name x p1) X.env := by rfl)
    (hline : (p2.endLine == p3.line) = true := by rfl) (hs : starEach [e] X.env = (false, eval e X.env) :: starEach [] X.env := by rfl) (hsw : swapsWith (.Call (.Attribute (.Name x p1) "append" p2) [e] [] p3) none pos.line X.env = pure false := by rfl) :
    PLS X (.Expr (.Call (.Attribute (.Name x p1) "append" p2) [e] [] p3) pos) (tDrop (tBM X.K "list" rAppend (tVar i) (tCons ta tNil))) (dApp i pa) :=
  ⟨ps_expr (pe_bm PySem.F.plainAttrs_list PySem.F.slot_list_append PySem.F.type_list_append mt_append ho.pe (pa_cons he.pe pa_nil hs) hbase hfew hline hs rfl) hsw, fun g H0 σ H ss n w D DD k h E => by
  obtain ⟨xs, hx, h⟩ := h
  obtain ⟨a, vs, h1, h2, h3, h4, h5⟩ := k.sl i _ hx
  refine ⟨_, h1, .inl ⟨rfl, vs, SqL.of h4⟩, he.lf g H0 σ H ss n w _ _ k h fun d n' v H' h6 e1 k1 r1 => ?_⟩
  obtain ⟨hz, hn, hq⟩ := h6
  obtain ⟨a', vs', g1, g2, g3, g4, g5⟩ := k1.sl i _ hx
  rw [h1] at g1
  cases g1
  refine ⟨a, vs', v, rfl, rfl, g4, by rw [g5.len]; exact hz, ?_⟩
  obtain ⟨k2, s2⟩ := k1.turn (vs' := vs' ++ [v]) (xs := xs ++ [d]) (lt_of_get hx) h1 g2 g3 g4 (g5.app (.cons (k1.strong r1 (.inl hn)) .nil))
  exact E.nx _ _ _ _ _ k2 (fun b o q => s2 b o (hw_ed k.wdk e1 b o q)) hq⟩
/-- x[i] = e, x a list of the def's own -/
def dSetIx (i : Nat) (pi p : DE) : DS := fun DD ss n => ∃ xs, ss[i]? = some (.own xs) ∧ p ss n fun d n1 => pi ss n1 fun y n2 => ∃ z j, y = .int z ∧ ixN xs.length z = some j ∧ NL d = true ∧ DD.nx (ss.set i (.own (xs.set j d))) n2
theorem lf_setIx {i : Nat} {ti te : TE} {pi p : DE} (he : Lf te p) (hi : Lf ti pi) : LfS (tAsg te (gSub (tVar i) ti rSetL)) (dSetIx i pi p) := fun g H0 σ H ss n w D DD k h E => by
  obtain ⟨xs, hx, h⟩ := h
  refine he g H0 σ H ss n w _ _ k h fun d n1 v H1 h1 e1 k1 r1 => ?_
  obtain ⟨a, vs, g1, g2, g3, g4, g5⟩ := k1.sl i _ hx
  refine ⟨_, g1, hi g H0 σ H1 ss n1 w _ _ k1 h1 fun y n2 u H2 h2 e2 k2 r2 => ?_⟩
  obtain ⟨z, j, rfl, hj, hn, hq⟩ := h2
  cases r2
  obtain ⟨a', vs', f1, f2, f3, f4, f5⟩ := k2.sl i _ hx
  rw [g1] at f1
  cases f1
  refine ⟨a, vs', z, j, rfl, rfl, f4, by rw [f5.len]; exact hj, ?_⟩
  obtain ⟨k3, s3⟩ := k2.turn (vs' := vs'.set j v) (xs := xs.set j d) (lt_of_get hx) g1 f2 f3 f4 (f5.set (k2.strong (r1.same (h0_ed e2)) (.inl hn)) j)
  exact E.nx _ _ _ _ _ k3 (fun b o q => s3 b o (hw_ed k.wdk (e1.trans e2) b o q)) hq
theorem s_setIx {i : Nat} {x : Str} {p1 p2 : Pos} (ho : PL X (.Name x p1) (tVar i) (dVar i)) (hi : PL X b tb pb) (he : PL X e ta pa)
    (hass : ∀ v, assign (.Subscript (.Name x p1) b p2) X.env v = (do { let ov ← holding [v] (eval (.Name x p1) X.env); let iv ← holding [v, ov] (eval b X.env); standAt p2; holding [v, ov, iv] (setItem ov iv v); release [v, ov, iv] [] }) := by intro _; rfl)
    (hsw : swapsWith e (some (.Subscript (.Name x p1) b p2)) pos.line X.env = pure false := by rfl) :
    PLS X (.Assign [.Subscript (.Name x p1) b p2] e pos) (tAsg ta (gSub (tVar i) tb rSetL)) (dSetIx i pb pa) := ⟨ps_asg he.pe (pg_sub ho.pe hi.pe set_list hass) hsw, lf_setIx he.lf hi.lf⟩

/-! ### targets -/
abbrev DG := PyData → List S → Nat → (List S → Nat → Prop) → Prop
def LfG (t : TG) (is : List Nat) (p : DG) : Prop := ∀ (g : Gd) (H0 : Hp) (σ : L2.St) (H : Hp) (ss : List S) (n : Nat) (w : Addr → Option Nat) (v : V) (d : PyData) (Q : L2.St → Hp → Prop) (Q1 : List S → Nat → Prop), Ok g H0 σ H ss n w → Dq (hw w H) v d → p d ss n Q1 →
  (∀ σ' ss' w', Ok g H0 σ' H ss' n w' → Same (hw w H) (hw w' H) → (∀ vs, (∀ i ∈ is, i ∈ vs) → wipe σ' vs = wipe σ vs) → Q1 ss' n → Q σ' H) → t v σ H Q
structure PLTg (X : Cx) (e : Expr) (t : TG) (is : List Nat) (p : DG) : Prop where
  pg : PG X e t
  lf : LfG t is p
theorem wipe_set {σ : L2.St} {i : Nat} {x : Option V} : ∀ {vs : List Nat}, i ∈ vs → wipe (σ.set i x) vs = wipe σ vs
  | [], h => by cases h
  | v :: vs, h => by
    unfold wipe
    by_cases e : i ∈ vs
    · rw [wipe_set e]
    · have e2 : i = v := (List.mem_cons.mp h).resolve_right e
      subst e2
      clear h
      have : ∀ us : List Nat, i ∉ us → wipe (σ.set i x) us = (wipe σ us).set i x := fun us => by
        induction us with
        | nil => exact fun _ => rfl
        | cons u r ih =>
          intro hu
          unfold wipe
          rw [ih fun z => hu (List.mem_cons_of_mem _ z), List.set_comm _ _ fun z => hu (by rw [← z]; exact List.mem_cons_self)]
      rw [this vs e, List.set_set]
def dgName (i : Nat) : DG := fun d ss n Q => Q (ss.set i (.d d)) n
theorem g_name {i : Nat} {x : Str} (hN : X.N.Nodup) (hi : X.N[i]? = some x) (hx : L2.Loc X.env.scope x) (hf : X.fn x = true ∨ X.env.scope.names.lookup x = some .local := by first | exact .inl rfl | exact .inr rfl) : PLTg X (.Name x pos) (gName i) [i] (dgName i) :=
  ⟨pg_name hN hi hx hf, fun g H0 σ H ss n w v d Q Q1 k r h q => q _ _ _ (k.put r) drp_same (fun vs hv => wipe_set (hv i List.mem_cons_self)) h⟩
abbrev DGs := List PyData → List S → Nat → (List S → Nat → Prop) → Prop
def LfGs (t : TGs) (is : List Nat) (p : DGs) : Prop := ∀ (g : Gd) (H0 : Hp) (σ : L2.St) (H : Hp) (ss : List S) (n : Nat) (w : Addr → Option Nat) (vs : List V) (ds : List PyData) (Q : L2.St → Hp → Prop) (Q1 : List S → Nat → Prop), Ok g H0 σ H ss n w → DqA (hw w H) vs ds → p ds ss n Q1 →
  (∀ σ' ss' w', Ok g H0 σ' H ss' n w' → Same (hw w H) (hw w' H) → (∀ vs, (∀ i ∈ is, i ∈ vs) → wipe σ' vs = wipe σ vs) → Q1 ss' n → Q σ' H) → t vs σ H Q
structure PLTgs (X : Cx) (es : List Expr) (t : TGs) (is : List Nat) (p : DGs) : Prop where
  pg : PGs X es t
  lf : LfGs t is p
def dgNil : DGs := fun ds ss n Q => ds = [] ∧ Q ss n
def dgCons (p : DG) (r : DGs) : DGs := fun ds ss n Q => match ds with
  | [] => False
  | d :: ds => p d ss n fun ss' n' => r ds ss' n' Q
theorem gs_nil : PLTgs X [] gNil [] dgNil := ⟨pgs_nil, fun g H0 σ H ss n w vs ds Q Q1 k r h q => by
  obtain ⟨rfl, h⟩ := h
  cases r
  exact ⟨rfl, q _ _ _ k (Same.refl _) (fun _ _ => rfl) h⟩⟩
theorem gs_cons {tg : TG} {tr : TGs} {is js : List Nat} {pg : DG} {pr : DGs} (h1 : PLTg X e tg is pg) (h2 : PLTgs X es tr js pr) (hm : List.map (fun x => x.snd) (assignEach (e :: es) X.env) = assign e X.env :: List.map (fun x => x.snd) (assignEach es X.env) := by rfl) :
    PLTgs X (e :: es) (gCons tg tr) (is ++ js) (dgCons pg pr) := ⟨pgs_cons h1.pg h2.pg hm, fun g H0 σ H ss n w vs ds Q Q1 k r h q => by
  cases r with
  | nil => exact h.elim
  | @cons v vs d ds r rr =>
    exact ⟨v, vs, rfl, h1.lf g H0 σ H ss n w v d _ _ k r h fun σ1 ss1 w1 k1 s1 f1 h1 => h2.lf g H0 σ1 H ss1 n w1 vs ds _ _ k1 (rr.same s1) h1 fun σ2 ss2 w2 k2 s2 f2 h2 =>
      q σ2 ss2 w2 k2 (s1.trans s2) (fun us hu => (f2 us fun i hi => hu i (List.mem_append_right _ hi)).trans (f1 us fun i hi => hu i (List.mem_append_left _ hi))) h2⟩⟩
def dgTup (n : Nat) (p : DGs) : DG := fun d ss m Q => ∃ ds, d = .tuple ds ∧ ds.length = n ∧ p ds ss m Q
theorem g_tup {k n : Nat} {tr : TGs} {is : List Nat} {pr : DGs} (hc : X.calm = true) (h : PLTgs X es tr is pr) (hn : (assignEach es X.env).length = n := by rfl) (hst : List.findIdx? (fun x => x.fst) (assignEach es X.env) = none := by rfl) :
    PLTg X (.Tuple es k pos) (gTup X.K n tr) is (dgTup n pr) := ⟨pg_tup hc h.pg hn hst, fun g H0 σ H ss m w v d Q Q1 kk r h' q => by
  obtain ⟨ds, rfl, hl, h'⟩ := h'
  cases r with
  | @tup a vs _ ha hA => exact ⟨a, vs, rfl, SqT.of (hsub ha), by rw [hA.len]; exact hl, h.lf g H0 σ H ss m w vs ds _ _ kk hA h' q⟩⟩
/-- a, b = e: data unpacked -/
def dAsgT (p : DE) (pg : DG) : DS := fun DD ss n => p ss n fun d n' => canD ss d ∧ pg d ss n' fun ss' n2 => DD.nx ss' n2
theorem s_asgT {tg : TG} {is : List Nat} {pg : DG} {y : Expr} (he : PL X e ta pa) (hg : PLTg X y tg is pg) (hsw : swapsWithSole [y] e pos.line X.env = pure false := by rfl) (hst : swappedStores [y] e X.env = pure none := by rfl)
    (h1 : (assignEach [y] X.env).map (·.2) = [assign y X.env] := by rfl) : PLS X (.Assign [y] e pos) (tAsg ta tg) (dAsgT pa pg) :=
  ⟨ps_asg he.pe hg.pg hsw hst h1, fun g H0 σ H ss n w D DD k h E => he.lf g H0 σ H ss n w _ _ k h fun d n' v H' h1 e1 k1 r1 =>
    hg.lf g H0 σ H' ss n' w v d _ _ k1 (k1.strong r1 h1.1) h1.2 fun σ' ss' w' k2 s2 _ h2 => E.nx _ _ _ _ _ k2 (fun b o q => s2 b o (hw_ed k.wdk e1 b o q)) h2⟩
/-- a, b = e1, e2 -/
def dPar (i j : Nat) (p q : DE) : DS := fun DD ss n => p ss n fun d n1 => q ss n1 fun e n2 => i ≠ j ∧ canD ss d ∧ canD ss e ∧ DD.nx ((ss.set i (.d d)).set j (.d e)) n2
theorem s_par {i j : Nat} {x y : Str} {px py pt' : Pos} {kt k2 : Nat} {pt2 : Pos} (hc : X.calm = true) (hN : X.N.Nodup) (hi : X.N[i]? = some x) (hj : X.N[j]? = some y) (hij : i ≠ j) (hx : List.lookup x X.env.scope.names = some .local) (hy : List.lookup y X.env.scope.names = some .local)
    (ha : PL X a ta pa) (hb : PL X b tb pb) (hs : starEach [a, b] X.env = (false, eval a X.env) :: starEach [b] X.env := by rfl) (hs2 : starEach [b] X.env = (false, eval b X.env) :: starEach [] X.env := by rfl)
    (hsw : swappedStores [.Tuple [.Name x px, .Name y py] kt pt'] (.Tuple [a, b] k2 pt2) X.env = pure (some [x, y]) := by rfl) (hsole : swapsWithSole [.Tuple [.Name x px, .Name y py] kt pt'] (.Tuple [a, b] k2 pt2) pos.line X.env = pure false := by rfl) :
    PLS X (.Assign [.Tuple [.Name x px, .Name y py] kt pt'] (.Tuple [a, b] k2 pt2) pos) (tPar i j (tCons ta (tCons tb tNil))) (dPar i j pa pb) :=
  ⟨ps_par hc hN hi hj hij hx hy (pa_cons ha.pe (pa_cons hb.pe pa_nil hs2) hs) hsw hsole, fun g H0 σ H ss n w D DD k h E => ha.lf g H0 σ H ss n w _ _ k h fun d n1 v H1 h1 e1 k1 r1 => hb.lf g H0 σ H1 ss n1 w _ _ k1 h1 fun e n2 u H2 h2 e2 k2 r2 => by
    obtain ⟨_, c1, c2, h2⟩ := h2
    have k3 := k2.put (i := i) (k2.strong (r1.same (h0_ed e2)) c1)
    have s3 : Same (hw w H2) (hw (drp w g.h i) H2) := drp_same
    have k4 := k3.put (i := j) ((k2.strong r2 c2).same s3)
    exact ⟨v, u, rfl, E.nx _ _ _ _ _ k4 (fun b o q => drp_same _ _ (s3 b o (hw_ed k.wdk (e1.trans e2) b o q))) h2⟩⟩
end

/-! ### a def's promise from its body -/
def toS : W → S
  | .d x => .d x
  | .dk => .dk
def startS (N : List Str) (as : List W) : List S := as.map toS ++ List.replicate (N.length - as.length) .un
theorem ok_start {g : Gd} {n : Nat} {H : Hp} {N : List Str} {vs : List V} {as : List W} (d : Deck g n H) (hh : Hid g.h H) (r : WsOk g H vs as) : Ok g H (L2.start N vs) H (startS N as) n g.h := by
  refine ⟨by unfold L2.start startS; simp [r.len], Ed.refl _ _, d, fun _ q => q, hh, fun a ha => .inl ha, fun i s hs => ?_⟩
  · have key : ∀ {vs : List V} {as : List W} (z : List (Option V)) (i : Nat), WsOk g H vs as → i < as.length → ∃ a v, as[i]? = some a ∧ (vs.map some ++ z)[i]? = some (some v) ∧ WOk g H v a := fun {vs as} z i r => by
      induction r generalizing i with
      | nil => intro h; exact absurd h (Nat.not_lt_zero _)
      | @cons v vs a as h q ih =>
        intro hi
        cases i with
        | zero => exact ⟨a, v, rfl, rfl, h⟩
        | succ i => exact ih i (Nat.lt_of_succ_lt_succ hi)
    unfold startS at hs
    by_cases hi : i < as.length
    · obtain ⟨a, v, h1, h2, h3⟩ := key (List.replicate (N.length - vs.length) none) i r hi
      rw [List.getElem?_append_left (by rw [List.length_map]; exact hi), List.getElem?_map, h1] at hs
      cases hs
      cases a with
      | d x => exact ⟨v, h2, h3⟩
      | dk =>
        have h3 : v = .ref g.dk := h3
        subst h3
        exact h2
    · rw [List.getElem?_append_right (by rw [List.length_map]; omega)] at hs
      have := List.mem_of_getElem? hs
      rw [List.eq_of_mem_replicate this]
      trivial
section
variable {P : Program} {w : World} {K : PySem.W.Frag} {mg : Str → Option Value} {base : Heap} {k : Nat} {f : Addr} {fd : FuncData}
/-- what a body's context is -/
abbrev cxB (P : Program) (w : World) (K : PySem.W.Frag) (mg : Str → Option Value) (base : Heap) (N : List Str) (qual : Str) (st : Stmt) (f : Addr) (cdv : Value) (A : Around) (o : List Env) (s : Shared) (H : Hp) (E : XK) : Cx := (cxOf CX0 P w K mg base N qual (defScope st) f cdv A o s H E).nox
theorem fn_def {N ps : List Str} {x qual : Str} {st : Stmt} {F : DF} {p : DS} (U : Fun K x qual st f fd) (S : FnScope N ps (defScope st)) (len : ∀ as n Q, F as n Q → as.length = ps.length)
    (body : ∀ (cdv : Value) (A : Around) (o : List Env) (s : Shared) (H : Hp) (E : XK), Room k (cxB P w K mg base N qual st f cdv A o s H E).A → (cxB P w K mg base N qual st f cdv A o s H E).A.guards = some [] → ∃ t, PLB (cxB P w K mg base N qual st f cdv A o s H E) (defBody st) t p)
    (h : ∀ as n Q, F as n Q → p { nx := fun _ n' => Q .none n', rt := Q } (startS N as) n) : FnG P w K mg base CX0 (k + 1) f fd ps (spD F) := by
  refine fnG_of U S (fun vs H Q E q => ?_) (fun cdv A o s H vs Q E hr hg q => ?_)
  · obtain ⟨g, n, as, Q1, _, r, h1, _⟩ := q
    rw [r.len]
    exact len _ _ _ h1
  · obtain ⟨g, n, as, Q1, d, r, h1, back⟩ := q
    obtain ⟨t, B⟩ := body cdv A o s H E hr hg
    refine ⟨t, B.ps.nox, B.lf g H (L2.start N vs) H (startS N as) n g.h _ _ (ok_start d.1 d.2 r) (h as n Q1 h1) ⟨fun σ' H' ss n' w' k' _ h' => ?_, fun _ _ _ _ _ _ _ h' => h'.elim, fun _ _ _ _ _ _ _ h' => h'.elim, fun v H' dd n' e1 d1 r1 h1 => ?_, fun _ _ _ _ _ _ _ _ _ _ h' => h'.elim, fun _ _ _ _ _ _ _ _ h' => h'.elim⟩⟩
    · exact back _ _ _ _ h' k'.ed k'.deck .non
    · exact back _ _ _ _ h1 e1 d1 r1
/-- .. of a def that gives a new list -/
theorem fn_defL {N ps : List Str} {x qual : Str} {st : Stmt} {F : DFL} {p : DS} (U : Fun K x qual st f fd) (S : FnScope N ps (defScope st)) (len : ∀ as n Q, F as n Q → as.length = ps.length)
    (body : ∀ (cdv : Value) (A : Around) (o : List Env) (s : Shared) (H : Hp) (E : XK), Room k (cxB P w K mg base N qual st f cdv A o s H E).A → (cxB P w K mg base N qual st f cdv A o s H E).A.guards = some [] → ∃ t, PLB (cxB P w K mg base N qual st f cdv A o s H E) (defBody st) t p)
    (h : ∀ as n Q, F as n Q → p { nx := fun _ _ => False, rt := fun _ _ => False, rl := Q } (startS N as) n) : FnG P w K mg base CX0 (k + 1) f fd ps (spL F) := by
  refine fnG_of U S (fun vs H Q E q => ?_) (fun cdv A o s H vs Q E hr hg q => ?_)
  · obtain ⟨g, n, as, Q1, _, r, h1, _⟩ := q
    rw [r.len]
    exact len _ _ _ h1
  · obtain ⟨g, n, as, Q1, d, r, h1, back⟩ := q
    obtain ⟨t, B⟩ := body cdv A o s H E hr hg
    exact ⟨t, B.ps.nox, B.lf g H (L2.start N vs) H (startS N as) n g.h _ _ (ok_start d.1 d.2 r) (h as n Q1 h1) ⟨fun _ _ _ _ _ _ _ h' => h'.elim, fun _ _ _ _ _ _ _ h' => h'.elim, fun _ _ _ _ _ _ _ h' => h'.elim, fun _ _ _ _ _ _ _ h' => h'.elim,
      fun a us H' xs n' e1 d1 h0 h2 r1 h' => back xs n' a us H' h' e1 d1 h0 h2 r1, fun _ _ _ _ _ _ _ _ h' => h'.elim⟩⟩
end
end Ev

namespace Ev
open PySem PySem.Spec PyProof.Rows L2
/-! ### what is walked -/
/-- J yields the data xs, one by one, as long as what was visible stands -/
def WalksD (g : Gd) (J : It) (xs : List PyData) (Hv : Hp) : Prop := ∀ H w', Same Hv (hw w' H) → (w' g.dk).isSome → H g.dk ≠ none →
  (∀ i, i < xs.length → J.go i H) ∧ (∀ i v H', J.yld i H v H' → i < xs.length → Same H H' ∧ (∀ d, xs[i]? = some d → (∀ p, H p = none → w' p = none) → Dq (hw w' H') v d)) ∧ J.stop xs.length H
abbrev DI := List S → Nat → (List PyData → Nat → Prop) → Prop
def LfI (wi : TI) (p : DI) : Prop := ∀ (g : Gd) (H0 : Hp) (σ : L2.St) (H : Hp) (ss : List S) (n : Nat) (w : Addr → Option Nat) (R : It → Hp → Prop) (Q1 : List PyData → Nat → Prop), Ok g H0 σ H ss n w → p ss n Q1 →
  (∀ xs n' H' J, Q1 xs n' → Ed g.dk H H' → Ok g H0 σ H' ss n' w → WalksD g J xs (hw w H') → R J H') → wi σ H R
structure PLI (X : Cx) (tg e : Expr) (wi : TI) (p : DI) : Prop where
  pi : PI X tg e wi
  lf : LfI wi p
theorem sql_eq {K : PySem.W.Frag} {H : Hp} {a : Addr} {vs xs : List V} (h : H a = some (.lst vs)) (k : ∀ o, K.lookup a = some o → H a = none) (q : SqL K H a xs) : xs = vs := by
  rcases q with (q | ⟨o, q⟩) | ⟨o, _, _, q, _⟩
  · rw [h] at q; cases q; rfl
  · rw [h] at q; cases q
  · rw [k _ q] at h; cases h
section
variable {X : Cx} {tg e a b c : Expr} {es : List Expr} {t ta tb tc : TE} {tt tu : TT} {tA : TA} {p pa pb pc : DE} {pt pu : DT} {pA : DA} {pos apos : Pos} {st : Stmt} {sts sts' : List Stmt} {ts tz : TS} {q r : DS}
/-- over a list or a tuple -/
def iSeq (K : PySem.W.Frag) (tl : TE) : TI := fun σ H R => tl σ H fun x H1 => ∃ a, x = .ref a ∧ (((∃ xs, SqL K H1 a xs) ∧ R (Itl K a) H1) ∨ ((∃ xs, SqT K H1 a xs) ∧ R (Itt K a) H1))
theorem pi_seq (hl : PE X e t) : PI X tg e (iSeq X.K t) := by
  refine ⟨fun pins s σ H R I h => thn (hl.run pins s σ H _ I h) fun v s1 ⟨x, H1, I1, r1, q1⟩ => ?_⟩
  have fp : ∀ c ∈ [s1.heap.objs.size], FpOk X pins H1 c := fun c hc => by
    obtain rfl := List.mem_singleton.mp hc
    exact I1.fpOk (Nat.le_refl _) (I1.hok.fresh (Nat.le_refl _))
  obtain ⟨a, rfl, q1⟩ := q1
  cases r1
  rcases q1 with ⟨⟨xs, hq⟩, q⟩ | ⟨⟨xs, hq⟩, q⟩
  · obtain ⟨its, _, pl, _⟩ := I1.list hq
    exact wpAny_pyIter_list pl.isList ⟨_, [s1.heap.objs.size], _, _, H1, rfl, I1.kept (t' := s1.toks) fun c o e => Heap.get?_push_of_some _ e, turn_list a _, ⟨_, Heap.get?_push_size _ rfl, rfl, rfl⟩, fp, q⟩
  · obtain ⟨its, _, pl, _⟩ := I1.tuple hq
    exact wpAny_pyIter_tuple (show s1.heap.IsTuple a its.toArray from pl) ⟨_, [s1.heap.objs.size], _, _, H1, rfl, I1.kept (t' := s1.toks) fun c o e => Heap.get?_push_of_some _ e, turn_tuple a _, ⟨_, Heap.get?_push_size _ rfl, rfl, rfl⟩, fp, q⟩
theorem walks_list {g : Gd} {K : PySem.W.Frag} {Hv : Hp} {a : Addr} {vs : List V} {xs : List PyData} (h : Hv a = some (.lst vs)) (hA : DqA Hv vs xs) : WalksD g (Itl K a) xs Hv := fun H w' s hd hn => by
  have h1 : H a = some (.lst vs) := (hw_some.mp (s _ _ h)).2
  refine ⟨fun i hi => ?_, fun i v H' hy hi => ?_, ⟨vs, SqL.of h1, by rw [hA.len]; exact Nat.le_refl _⟩⟩
  · have hi2 : i < vs.length := by rw [hA.len]; exact hi
    exact ⟨vs, vs[i], SqL.of h1, List.getElem?_eq_getElem hi2⟩
  · obtain ⟨rfl, hy⟩ := hy
    refine ⟨Same.refl _, fun d hd' _ => ?_⟩
    obtain ⟨v', e1, e2⟩ := (hA.same s).get hd'
    have e3 := hy vs (SqL.of h1)
    rw [e1] at e3
    cases e3
    exact e2
theorem walks_tup {g : Gd} {K : PySem.W.Frag} {Hv : Hp} {a : Addr} {vs : List V} {xs : List PyData} (h : Hv a = some (.tup vs)) (hA : DqA Hv vs xs) : WalksD g (Itt K a) xs Hv := fun H w' s hd hn => by
  have h1 : H a = some (.tup vs) := (hw_some.mp (s _ _ h)).2
  refine ⟨fun i hi => ?_, fun i v H' hy hi => ?_, ⟨vs, SqT.of h1, by rw [hA.len]; exact Nat.le_refl _⟩⟩
  · have hi2 : i < vs.length := by rw [hA.len]; exact hi
    exact ⟨vs, vs[i], SqT.of h1, List.getElem?_eq_getElem hi2⟩
  · obtain ⟨rfl, hy⟩ := hy
    refine ⟨Same.refl _, fun d hd' _ => ?_⟩
    obtain ⟨v', e1, e2⟩ := (hA.same s).get hd'
    have e3 := hy vs (SqT.of h1)
    rw [e1] at e3
    cases e3
    exact e2
/-- the items of data -/
def itemsOf : PyData → List PyData
  | .list xs => xs
  | .tuple xs => xs
  | _ => []
def isSeq : PyData → Bool
  | .list _ => true
  | .tuple _ => true
  | _ => false
def diSeq (p : DE) : DI := fun ss n Q => p ss n fun d n' => isSeq d = true ∧ canD ss d ∧ Q (itemsOf d) n'
theorem i_seq (ha : PL X a ta pa) : PLI X tg a (iSeq X.K ta) (diSeq pa) := ⟨pi_seq ha.pe, fun g H0 σ H ss n w R Q1 k h q => ha.lf g H0 σ H ss n w _ _ k h fun d n' v H' h1 e1 k1 r1 => by
  obtain ⟨h1, h2, h3⟩ := h1
  have r2 := k1.strong r1 h2
  cases r2 with
  | @lst a vs ds ha hA => exact ⟨a, rfl, .inl ⟨⟨vs, SqL.of (hsub ha)⟩, q _ _ _ _ h3 e1 k1 (walks_list ha hA)⟩⟩
  | @tup a vs ds ha hA => exact ⟨a, rfl, .inr ⟨⟨vs, SqT.of (hsub ha)⟩, q _ _ _ _ h3 e1 k1 (walks_tup ha hA)⟩⟩
  | _ => cases h1⟩
/-- over a new list -/
def diL (p : DL) : DI := fun ss n Q => p ss n fun xs n' => (NLA xs = true ∨ noOwn ss = true) ∧ Q xs n'
theorem i_L {pl : DL} (ha : PLL X a ta pl) : PLI X tg a (iSeq X.K ta) (diL pl) := ⟨pi_seq ha.pe, fun g H0 σ H ss n w R Q1 k h q => ha.lf g H0 σ H ss n w _ _ k h fun xs n' a vs H' h1 e1 k1 f1 g1 r1 =>
  ⟨a, rfl, .inl ⟨⟨vs, SqL.of g1⟩, q _ _ _ _ h1.2 e1 k1 (walks_list (hw_some.mpr ⟨k.free f1, g1⟩) (k1.strongA r1 h1.1))⟩⟩⟩
/-- over a range -/
def rangeD (lo : Int) (n : Nat) : List PyData := (List.range n).map fun (i : Nat) => PyData.int (lo + i)
theorem walks_range {g : Gd} {Hv : Hp} {lo : Int} {m : Nat} : WalksD g (Itr lo m) (rangeD lo m) Hv := fun H w' s hd hn => by
  have hl : (rangeD lo m).length = m := by simp [rangeD]
  refine ⟨fun i hi => by rw [hl] at hi; exact hi, fun i v H' hy hi => ?_, by rw [hl]; exact Nat.le_refl _⟩
  obtain ⟨rfl, rfl⟩ := hy
  refine ⟨Same.refl _, fun d hd' _ => ?_⟩
  rw [hl] at hi
  simp [rangeD, hi] at hd'
  subst hd'
  exact .int _
def diR1 (pA : DA) : DI := fun ss n Q => pA ss n fun as n' => onD as fun ds => ∃ j, ds = [.int j] ∧ -(2 ^ 62) ≤ j ∧ j < 2 ^ 62 ∧ Q (rangeD 0 j.toNat) n'
theorem i_range1 {p0 : Pos} (hg : Gl X "range") (hm : X.mg "range" = none) (ha : PLA X [a] tA pA) (hs : starEach [a] X.env = [(false, eval a X.env)] := by rfl) : PLI X tg (.Call (.Name "range" p0) [a] [] pos) (iRng1 tA) (diR1 pA) :=
  ⟨pi_range1 hg hm ha.pa hs, fun g H0 σ H ss n w R Q1 k h q => ha.lf g H0 σ H ss n w _ _ k h fun as n' vs H' h1 e1 k1 r1 => by
    obtain ⟨ds, e, j, rfl, h2, h3, h4⟩ := onD_some h1
    have r := datas_ok r1 e
    have ev := ints_of (ns := [j]) r
    subst ev
    exact ⟨j, rfl, h2, h3, q _ _ _ _ h4 e1 k1 walks_range⟩⟩
def diR2 (pA : DA) : DI := fun ss n Q => pA ss n fun as n' => onD as fun ds => ∃ i j, ds = [.int i, .int j] ∧ (-(2 ^ 62) ≤ i ∧ i < 2 ^ 62 ∧ -(2 ^ 62) ≤ j ∧ j < 2 ^ 62) ∧ Q (rangeD i (j - i).toNat) n'
theorem i_range2 {p0 : Pos} (hg : Gl X "range") (hm : X.mg "range" = none) (ha : PLA X [a, b] tA pA) (hs : starEach [a, b] X.env = [(false, eval a X.env), (false, eval b X.env)] := by rfl) (hs2 : starEach [b] X.env = [(false, eval b X.env)] := by rfl) :
    PLI X tg (.Call (.Name "range" p0) [a, b] [] pos) (iRng2 tA) (diR2 pA) :=
  ⟨pi_range2 hg hm ha.pa hs hs2, fun g H0 σ H ss n w R Q1 k h q => ha.lf g H0 σ H ss n w _ _ k h fun as n' vs H' h1 e1 k1 r1 => by
    obtain ⟨ds, e, i, j, rfl, h2, h4⟩ := onD_some h1
    have r := datas_ok r1 e
    have ev := ints_of (ns := [i, j]) r
    subst ev
    exact ⟨i, j, rfl, h2, q _ _ _ _ h4 e1 k1 walks_range⟩⟩
/-- over a text -/
def charsD (z : Str) : List PyData := z.cps.toList.map fun c => PyData.str ⟨#[c]⟩
theorem walks_str {g : Gd} {Hv : Hp} {z : Str} : WalksD g (Its z) (charsD z) Hv := fun H w' s hd hn => by
  have hl : (charsD z).length = z.cps.size := by simp [charsD]
  refine ⟨fun i hi => by rw [hl] at hi; exact hi, fun i v H' hy hi => ?_, by rw [hl]; exact Nat.le_refl _⟩
  obtain ⟨rfl, c, hc, rfl⟩ := hy
  refine ⟨Same.refl _, fun d hd' _ => ?_⟩
  have : z.cps.toList[i]? = some c := by simpa using hc
  unfold charsD at hd'
  rw [List.getElem?_map, this] at hd'
  cases hd'
  exact .str _
def diStr (p : DE) : DI := fun ss n Q => p ss n fun d n' => ∃ z, d = .str z ∧ Q (charsD z) n'
theorem i_str (ha : PL X a ta pa) : PLI X tg a (iStr ta) (diStr pa) := ⟨pi_str ha.pe, fun g H0 σ H ss n w R Q1 k h q => ha.lf g H0 σ H ss n w _ _ k h fun d n' v H' h1 e1 k1 r1 => by
  obtain ⟨z, rfl, h1⟩ := h1
  cases r1
  exact ⟨z, rfl, q _ _ _ _ h1 e1 k1 walks_str⟩⟩
/-- over zip of two lists or two tuples -/
def zipD (xs ys : List PyData) : List PyData := List.zipWith (fun x y => PyData.tuple [x, y]) xs ys
def diZip (pA : DA) : DI := fun ss n Q => pA ss n fun as n' => onD as fun ds => ∃ x y, ds = [x, y] ∧ canD ss x ∧ canD ss y ∧ ((∃ xs ys, x = .list xs ∧ y = .list ys ∧ Q (zipD xs ys) n') ∨ (∃ xs ys, x = .tuple xs ∧ y = .tuple ys ∧ Q (zipD xs ys) n'))
theorem zip_item {H : Hp} {w' : Addr → Option Nat} {vs us : List V} {xs ys : List PyData} (hA : DqA (hw w' H) vs xs) (hB : DqA (hw w' H) us ys) {i : Nat} {x y : V} {T : Addr} (hT : H T = none) (h1 : vs[i]? = some x) (h2 : us[i]? = some y) :
    Same H (upd H T (.tup [x, y])) ∧ (∀ d, (zipD xs ys)[i]? = some d → (∀ p, H p = none → w' p = none) → Dq (hw w' (upd H T (.tup [x, y]))) (.ref T) d) := by
  have s := same_new (.tup [x, y]) hT
  refine ⟨s, fun d hd fr => ?_⟩
  obtain ⟨dx, e1, r1⟩ := hA.getV h1
  obtain ⟨dy, e2, r2⟩ := hB.getV h2
  unfold zipD at hd
  rw [List.getElem?_zipWith, e1, e2] at hd
  cases hd
  have hs : Same (hw w' H) (hw w' (upd H T (.tup [x, y]))) := fun b o q => by
    obtain ⟨q1, q2⟩ := hw_some.mp q
    exact hw_some.mpr ⟨q1, s _ _ q2⟩
  exact .tup (hw_some.mpr ⟨fr T hT, upd_same⟩) (.cons (r1.same hs) (.cons (r2.same hs) .nil))
theorem i_zip {p0 tpos : Pos} {elts : List Expr} {kk : Nat} (hg : Gl X "zip") (hm : X.mg "zip" = none) (ha : PLA X [a, b] tA pA) (hs : starEach [a, b] X.env = (false, eval a X.env) :: starEach [b] X.env := by rfl) (hpl : (backTo pos (starEach [b] X.env)).any (·.1) = false := by rfl) :
    PLI X (.Tuple elts kk tpos) (.Call (.Name "zip" p0) [a, b] [] pos) (RZ.iZipA X.K tA) (diZip pA) := ⟨RZ.pi_zipA hg hm ha.pa hs hpl, fun g H0 σ H ss n w R Q1 k h q => ha.lf g H0 σ H ss n w _ _ k h fun as n' vs H' h1 e1 k1 r1 => by
  obtain ⟨ds, e, x, y, rfl, c1, c2, h1⟩ := onD_some h1
  have r := datas_ok r1 e
  cases r with
  | cons ra r =>
    cases r with
    | cons rb r =>
      cases r
      have s1 := k1.strong ra c1
      have s2 := k1.strong rb c2
      rcases h1 with ⟨xs, ys, rfl, rfl, h1⟩ | ⟨xs, ys, rfl, rfl, h1⟩
      · cases s1 with
        | @lst a us _ ha hA =>
          cases s2 with
          | @lst b zs _ hb hB =>
            refine ⟨a, b, us, zs, rfl, .inl ⟨SqL.of (hsub ha), SqL.of (hsub hb), q _ _ _ _ h1 e1 k1 fun H w' s hd hn => ?_⟩⟩
            have ga : H a = some (.lst us) := (hw_some.mp (s _ _ ha)).2
            have gb : H b = some (.lst zs) := (hw_some.mp (s _ _ hb)).2
            have hl : (zipD xs ys).length = min us.length zs.length := by rw [hA.len, hB.len]; simp [zipD]
            refine ⟨fun i hi => ?_, fun i v H2 hy hi => ?_, us, zs, SqL.of ga, SqL.of gb, by omega⟩
            · have h1 : i < us.length := by omega
              have h2 : i < zs.length := by omega
              exact ⟨us, zs, us[i], zs[i], SqL.of ga, SqL.of gb, List.getElem?_eq_getElem h1, List.getElem?_eq_getElem h2⟩
            · obtain ⟨T, x, y, rfl, hT, rfl, f1, f2⟩ := hy
              exact zip_item (hA.same s) (hB.same s) hT (f1 _ (SqL.of ga)) (f2 _ (SqL.of gb))
      · cases s1 with
        | @tup a us _ ha hA =>
          cases s2 with
          | @tup b zs _ hb hB =>
            refine ⟨a, b, us, zs, rfl, .inr ⟨SqT.of (hsub ha), SqT.of (hsub hb), q _ _ _ _ h1 e1 k1 fun H w' s hd hn => ?_⟩⟩
            have ga : H a = some (.tup us) := (hw_some.mp (s _ _ ha)).2
            have gb : H b = some (.tup zs) := (hw_some.mp (s _ _ hb)).2
            have hl : (zipD xs ys).length = min us.length zs.length := by rw [hA.len, hB.len]; simp [zipD]
            refine ⟨fun i hi => ?_, fun i v H2 hy hi => ?_, us, zs, SqT.of ga, SqT.of gb, by omega⟩
            · have h1 : i < us.length := by omega
              have h2 : i < zs.length := by omega
              exact ⟨us, zs, us[i], zs[i], SqT.of ga, SqT.of gb, List.getElem?_eq_getElem h1, List.getElem?_eq_getElem h2⟩
            · obtain ⟨T, x, y, rfl, hT, rfl, f1, f2⟩ := hy
              exact zip_item (hA.same s) (hB.same s) hT (f1 _ (SqT.of ga)) (f2 _ (SqT.of gb))⟩

/-! ### for, while -/
/-- I: what holds ahead of the i-th turn -/
def dFor (pi : DI) (pg : DG) (q : DS) : DS := fun DD ss n => pi ss n fun xs n1 => ∃ I : Nat → List S → Nat → Prop, I 0 ss n1 ∧
  (∀ i d ss' n', xs[i]? = some d → I i ss' n' → pg d ss' n' fun ss2 n2 => q { DD with nx := I (i + 1), ct := I (i + 1), bk := DD.nx } ss2 n2) ∧ ∀ ss' n', I xs.length ss' n' → DD.nx ss' n'
theorem lf_for {wi : TI} {pi : DI} {tg : TG} {is : List Nat} {pg : DG} (h1 : LfI wi pi) (h2 : LfG tg is pg) (h3 : LfS ts q) : LfS (tFor wi tg ts) (dFor pi pg q) := fun g H0 σ H ss n w D DD k h E => by
  refine h1 g H0 σ H ss n w _ _ k h fun xs n1 H1 J hI e1 k1 W => ?_
  obtain ⟨I, i0, step, done⟩ := hI
  refine ⟨fun i m σ' H' => m = xs.length - i ∧ i ≤ xs.length ∧ ∃ ss' n' w', Ok g H0 σ' H' ss' n' w' ∧ Same (hw w H1) (hw w' H') ∧ I i ss' n', ⟨_, rfl, Nat.zero_le _, ss, n1, w, k1, Same.refl _, i0⟩, fun i m σ' H' ⟨hm, hi, ss', n', w', k', s', hI⟩ => ?_⟩
  obtain ⟨go, yld, stop⟩ := W H' w' s' k'.wdk (ne_dk k'.deck)
  have s0 : Same (hw w H) (hw w' H') := (hw_ed k.wdk e1).trans s'
  by_cases hlt : i < xs.length
  · refine .inr ⟨go i hlt, fun σ2 H2 => ∃ ss2 n2 w2, Ok g H0 σ2 H2 ss2 n2 w2 ∧ Same (hw w H1) (hw w2 H2) ∧ I (i + 1) ss2 n2, fun σ2 H2 z => ⟨xs.length - (i + 1), by omega, rfl, hlt, z⟩, fun x H2 hy => ?_⟩
    obtain ⟨sm, item⟩ := yld i x H2 hy hlt
    have k2 := k'.same sm
    have r2 := item _ (List.getElem?_eq_getElem hlt) fun p hp => k'.free hp
    have sh : Same (hw w' H') (hw w' H2) := hw_ed k'.wdk (Ed.of sm)
    refine h2 g H0 σ' H2 ss' n' w' x _ _ _ k2 r2 (step i _ ss' n' (List.getElem?_eq_getElem hlt) hI) fun σ3 ss3 w3 k3 s3 _ hq => ?_
    refine h3 g H0 σ3 H2 ss3 n' w3 _ _ k3 hq ?_
    have back : Nx g H0 (hw w3 H2) (I (i + 1)) (fun σ2 H2 => ∃ ss2 n2 w2, Ok g H0 σ2 H2 ss2 n2 w2 ∧ Same (hw w H1) (hw w2 H2) ∧ I (i + 1) ss2 n2) := fun σ4 H4 ss4 n4 w4 k4 s4 h4 => ⟨ss4, n4, w4, k4, ((s'.trans sh).trans s3).trans s4, h4⟩
    exact ⟨back, E.nx.mono (((s0.trans sh).trans s3)), back, E.rt, E.rl, E.rx⟩
  · have e : i = xs.length := by omega
    subst e
    exact .inl ⟨stop, E.nx σ' H' ss' n' w' k' s0 (done ss' n' hI)⟩
theorem s_for {wi : TI} {pi : DI} {gt : TG} {is : List Nat} {pg : DG} (hp : PassesOwn (model X.prog X.w) X.A X.env X.xe) (hc : X.calm = true) (h1 : PLI X tg e wi pi) (h2 : PLTg X tg gt is pg) (h3 : PLB X sts ts q) (hs : ∀ x, foldedSetIterable e X.env x = pure x := by intro _; rfl) :
    PLS X (.For tg e sts [] pos) (tFor wi gt ts) (dFor pi pg q) := ⟨ps_for hp hc h1.pi h2.pg h3.ps hs, lf_for h1.lf h2.lf h3.lf⟩
def dWhile (pt : DT) (q : DS) : DS := fun DD ss n => ∃ I : Nat → List S → Nat → Prop, (∃ m, I m ss n) ∧ ∀ m ss' n', I m ss' n' → pt ss' n' fun b n2 =>
  if b = true then q { DD with nx := fun ss2 n3 => ∃ m', m' < m ∧ I m' ss2 n3, ct := fun ss2 n3 => ∃ m', m' < m ∧ I m' ss2 n3, bk := DD.nx } ss' n2 else DD.nx ss' n2
theorem s_while (hp : PassesOwn (model X.prog X.w) X.A X.env X.xe) (hc : PLT X c tt pt) (hb : PLB X sts ts q) : PLS X (.While c sts [] pos) (tWhile tt ts) (dWhile pt q) := ⟨ps_while hp hc.pt hb.ps, fun g H0 σ H ss n w D DD k h E => by
  obtain ⟨I, ⟨m0, i0⟩, step⟩ := h
  refine ⟨fun m σ' H' => ∃ ss' n' w', Ok g H0 σ' H' ss' n' w' ∧ Same (hw w H) (hw w' H') ∧ I m ss' n', ⟨m0, ss, n, w, k, Same.refl _, i0⟩, fun m σ' H' ⟨ss', n', w', k', s', hI⟩ => ?_⟩
  refine hc.lf g H0 σ' H' ss' n' w' _ _ k' (step m ss' n' hI) fun b n2 H2 h2 e2 k2 => ?_
  have s2 := s'.trans (hw_ed k'.wdk e2)
  cases b with
  | true =>
    rw [if_pos rfl] at h2 ⊢
    refine ⟨fun σ3 H3 => ∃ m', m' < m ∧ ∃ ss3 n3 w3, Ok g H0 σ3 H3 ss3 n3 w3 ∧ Same (hw w H) (hw w3 H3) ∧ I m' ss3 n3, fun σ3 H3 z => z, hb.lf g H0 σ' H2 ss' n2 w' _ _ k2 h2 ?_⟩
    have back : Nx g H0 (hw w' H2) (fun ss2 n3 => ∃ m', m' < m ∧ I m' ss2 n3) (fun σ3 H3 => ∃ m', m' < m ∧ ∃ ss3 n3 w3, Ok g H0 σ3 H3 ss3 n3 w3 ∧ Same (hw w H) (hw w3 H3) ∧ I m' ss3 n3) :=
      fun σ4 H4 ss4 n4 w4 k4 s4 ⟨m', hm, h4⟩ => ⟨m', hm, ss4, n4, w4, k4, s2.trans s4, h4⟩
    exact ⟨back, E.nx.mono s2, back, E.rt, E.rl, E.rx⟩
  | false =>
    rw [if_neg Bool.false_ne_true] at h2 ⊢
    exact E.nx σ' H2 ss' n2 w' k2 s2 h2⟩

/-! ### comprehensions -/
def wipeS (ss : List S) : List Nat → List S
  | [] => ss
  | v :: vs => (wipeS ss vs).set v .un
def okW (ss : List S) (vs : List Nat) : Bool := vs.all fun i => !(match ss[i]? with | some (.own _) => true | _ => false)
theorem wipeS_get {ss : List S} {i : Nat} {s : S} : ∀ {vs : List Nat}, (wipeS ss vs)[i]? = some s → (s = .un) ∨ (ss[i]? = some s ∧ i ∉ vs)
  | [], h => .inr ⟨h, by simp⟩
  | v :: vs, h => by
    unfold wipeS at h
    by_cases e : v = i
    · subst e
      by_cases hl : v < (wipeS ss vs).length
      · rw [List.getElem?_set_self hl] at h
        cases h
        exact .inl rfl
      · rw [List.getElem?_eq_none (by rw [List.length_set]; omega)] at h
        cases h
    · rw [List.getElem?_set_ne e] at h
      rcases wipeS_get h with h | ⟨h, h2⟩
      · exact .inl h
      · exact .inr ⟨h, by simp only [List.mem_cons, not_or]; exact ⟨fun z => e z.symm, h2⟩⟩
theorem wipeS_own {ss : List S} {i : Nat} {xs : List PyData} : ∀ {vs : List Nat}, ss[i]? = some (.own xs) → i ∉ vs → (wipeS ss vs)[i]? = some (.own xs)
  | [], h, _ => h
  | v :: vs, h, hv => by
    unfold wipeS
    rw [List.getElem?_set_ne fun e => hv (by rw [← e]; exact List.mem_cons_self)]
    exact wipeS_own h fun z => hv (List.mem_cons_of_mem _ z)
theorem wipe_get {σ : L2.St} {i : Nat} : ∀ {vs : List Nat}, i ∉ vs → (wipe σ vs)[i]? = σ[i]?
  | [], _ => rfl
  | v :: vs, h => by
    unfold wipe
    rw [List.getElem?_set_ne fun e => h (by rw [← e]; exact List.mem_cons_self)]
    exact wipe_get fun z => h (List.mem_cons_of_mem _ z)
theorem wipeS_len (ss : List S) : ∀ vs : List Nat, (wipeS ss vs).length = ss.length
  | [] => rfl
  | v :: vs => by unfold wipeS; rw [List.length_set, wipeS_len ss vs]
theorem Ok.wiped {g : Gd} {H0 H : Hp} {σ : L2.St} {ss : List S} {n : Nat} {w : Addr → Option Nat} (k : Ok g H0 σ H ss n w) {vs : List Nat} (h : okW ss vs = true) : Ok g H0 (wipe σ vs) H (wipeS ss vs) n w := by
  refine ⟨by rw [wipeS_len, wipe_length, k.len], k.ed, k.deck, k.ext, k.hx, fun a ha => ?_, fun i s hs => ?_⟩
  · rcases k.hid a ha with e | ⟨f1, f2, j, xs, h1, h2, h3⟩
    · exact .inl e
    · have hj : j ∉ vs := fun z => by
        have := List.all_eq_true.mp h j z
        rw [h2] at this
        cases this
      exact .inr ⟨f1, f2, j, xs, h1, wipeS_own h2 hj, by rw [wipe_get hj]; exact h3⟩
  · rcases wipeS_get hs with e | ⟨hs, hi⟩
    · subst e
      trivial
    · rw [wipe_get hi]
      exact k.sl i s hs
/-- back from a comprehension's block -/
theorem Ok.unwiped {g : Gd} {H0 H H' : Hp} {σ : L2.St} {ss : List S} {n n' : Nat} {w : Addr → Option Nat} (k : Ok g H0 σ H ss n w) (e : Ed g.dk H H') (d : Deck g n' H') : Ok g H0 σ H' ss n' w := k.step e d
def dLc (pi : DI) (pg : DG) (pt : DT) (pe : DE) (vs : List Nat) : DL := fun ss n Q => okW ss vs = true ∧ pi ss n fun xs n1 => ∃ I : Nat → List PyData → Nat → Prop, I 0 [] n1 ∧
  (∀ i d acc n', xs[i]? = some d → I i acc n' → pg d (wipeS ss vs) n' fun ss2 n2 => pt ss2 n2 fun b n3 => if b = true then pe ss2 n3 fun y n4 => acc.length < sizeLine ∧ NL y = true ∧ I (i + 1) (acc ++ [y]) n4 else I (i + 1) acc n3) ∧ ∀ acc n', I xs.length acc n' → Q acc n'
/-- J yields the data xs as long as all but the deck stands (within an expression) -/
def WalksC (g : Gd) (J : It) (xs : List PyData) (H1 : Hp) (w : Addr → Option Nat) : Prop := ∀ H, Ed g.dk H1 H → H g.dk ≠ none →
  (∀ i, i < xs.length → J.go i H) ∧ (∀ i v H', J.yld i H v H' → i < xs.length → Same H H' ∧ (∀ d, xs[i]? = some d → (∀ p, H p = none → w p = none) → Dq (hw w H') v d)) ∧ J.stop xs.length H
def LfIc (wi : TI) (p : DI) : Prop := ∀ (g : Gd) (H0 : Hp) (σ : L2.St) (H : Hp) (ss : List S) (n : Nat) (w : Addr → Option Nat) (R : It → Hp → Prop) (Q1 : List PyData → Nat → Prop), Ok g H0 σ H ss n w → p ss n Q1 →
  (∀ xs n' H' J, Q1 xs n' → Ed g.dk H H' → Ok g H0 σ H' ss n' w → WalksC g J xs H' w → R J H') → wi σ H R
structure PLIc (X : Cx) (tg e : Expr) (wi : TI) (p : DI) : Prop where
  pi : PI X tg e wi
  lf : LfIc wi p
theorem ic_ {wi : TI} {pi : DI} (h : PLI X tg e wi pi) : PLIc X tg e wi pi := ⟨h.pi, fun g H0 σ H ss n w R Q1 k hp q => h.lf g H0 σ H ss n w R Q1 k hp fun xs n' H' J h1 e1 k1 W => q xs n' H' J h1 e1 k1 fun H2 e2 hn => W H2 w (hw_ed k1.wdk e2) k1.wdk hn⟩
/-- over a list of the def's own -/
def diOwn (i : Nat) : DI := fun ss n Q => ∃ xs, ss[i]? = some (.own xs) ∧ Q xs n
theorem ic_own {i : Nat} {x : Str} {p1 : Pos} {K : PySem.W.Frag} (hK : X.K = K) (ho : PL X (.Name x p1) (tVar i) (dVar i)) : PLIc X tg (.Name x p1) (iSeq K (tVar i)) (diOwn i) := by
  subst hK
  refine ⟨pi_seq ho.pe, fun g H0 σ H ss n w R Q1 k hp q => ?_⟩
  obtain ⟨xs, hx, hp⟩ := hp
  obtain ⟨a, vs, h1, h2, h3, h4, h5⟩ := k.sl i _ hx
  refine ⟨_, h1, a, rfl, .inl ⟨⟨vs, SqL.of h4⟩, q xs n H _ hp (Ed.refl _ _) k fun H2 e2 hn => ?_⟩⟩
  have g1 : H2 a = some (.lst vs) := e2 _ _ (Gd.ne h3) h4
  have hA := h5.same (hw_ed k.wdk e2)
  refine ⟨fun j hj => ?_, fun j v H3 hy hj => ?_, ⟨vs, SqL.of g1, by rw [h5.len]; exact Nat.le_refl _⟩⟩
  · have hj2 : j < vs.length := by rw [h5.len]; exact hj
    exact ⟨vs, vs[j], SqL.of g1, List.getElem?_eq_getElem hj2⟩
  · obtain ⟨rfl, hy⟩ := hy
    refine ⟨Same.refl _, fun d hd _ => ?_⟩
    obtain ⟨v', f1, f2⟩ := hA.get hd
    have f3 := hy vs (SqL.of g1)
    rw [f1] at f3
    cases f3
    exact f2
theorem lf_lc {wi : TI} {pi : DI} {tg : TG} {is : List Nat} {pg : DG} {vs : List Nat} (h1 : LfIc wi pi) (h2 : LfG tg is pg) (h3 : LfT tt pt) (h4 : Lf t p) (hv : ∀ i ∈ is, i ∈ vs) : LfL (tLc wi tg tt t vs) (dLc pi pg pt p vs) := fun g H0 σ H ss n w Q Q1 k h q => by
  obtain ⟨ow, h⟩ := h
  refine h1 g H0 σ H ss n w _ _ k h fun xs n1 H1 J hI e1 k1 W => ?_
  obtain ⟨I, i0, step, done⟩ := hI
  intro Dl hD
  have hDdk : Dl ≠ g.dk := ne_free k1.deck hD
  refine ⟨fun i m H' => m = xs.length - i ∧ i ≤ xs.length ∧ ∃ acc n' us, Ed g.dk H1 H' ∧ Deck g n' H' ∧ H' Dl = some (.lst us) ∧ DqA (hw g.h H') us acc ∧ NLA acc = true ∧ I i acc n', ⟨_, rfl, Nat.zero_le _, [], n1, [], Ed.of (same_new _ hD), k1.deck.same (same_new _ hD), upd_same, .nil, rfl, i0⟩,
    fun i m H' ⟨hm, hi, acc, n', us, e', d', hDl, hA, hN, hI⟩ => ?_⟩
  have k' := k1.step e' d'
  obtain ⟨go, yld, stop⟩ := W H' e' (ne_dk d')
  by_cases hlt : i < xs.length
  · refine .inr ⟨go i hlt, fun H2 => ∃ acc n' us, Ed g.dk H1 H2 ∧ Deck g n' H2 ∧ H2 Dl = some (.lst us) ∧ DqA (hw g.h H2) us acc ∧ NLA acc = true ∧ I (i + 1) acc n', fun H2 z => ⟨xs.length - (i + 1), by omega, rfl, hlt, z⟩, fun x H2 hy => ?_⟩
    obtain ⟨sm, item⟩ := yld i x H2 hy hlt
    have k2 := (k'.same sm).wiped ow
    have r2 := item _ (List.getElem?_eq_getElem hlt) fun p hp => k'.free hp
    refine h2 g H0 (wipe σ vs) H2 (wipeS ss vs) n' w x _ _ _ k2 r2 (step i _ acc n' (List.getElem?_eq_getElem hlt) hI) fun σ3 ss3 w3 k3 s3 f3 hq => ?_
    have ww : wipe (wipe σ vs) vs = wipe σ vs := by
      have : ∀ us : List Nat, (∀ i ∈ us, i ∈ vs) → wipe (wipe σ us) vs = wipe σ vs := fun us => by
        induction us with
        | nil => exact fun _ => rfl
        | cons u r ih =>
          intro hu
          show wipe ((wipe σ r).set u none) vs = wipe σ vs
          rw [wipe_set (hu u List.mem_cons_self), ih fun i hi => hu i (List.mem_cons_of_mem _ hi)]
      exact this vs fun i hi => hi
    refine ⟨(f3 vs hv).trans ww, h3 g H0 σ3 H2 ss3 n' w3 _ _ k3 hq fun b n3 H3 hb e3 k3' => ?_⟩
    have e13 : Ed g.dk H1 H3 := (e'.trans (Ed.of sm)).trans e3
    have hD3 : H3 Dl = some (.lst us) := e3 _ _ hDdk (sm _ _ hDl)
    have hA3 := hA.same (h0_ed ((Ed.of sm).trans e3))
    cases b with
    | true =>
      rw [if_pos rfl] at hb ⊢
      refine h4 g H0 σ3 H3 ss3 n3 w3 _ _ k3' hb fun y n4 v H4 hy4 e4 k4 r4 => ?_
      have hD4 : H4 Dl = some (.lst us) := e4 _ _ hDdk hD3
      have hA4 := (hA3.same (h0_ed e4)).app (.cons r4 .nil)
      have hN2 : NLA (acc ++ [y]) = true := NLA_all.mpr fun z hz => by
        rcases List.mem_append.mp hz with hz | hz
        · exact NLA_all.mp hN z hz
        · rw [List.mem_singleton.mp hz]
          exact hy4.2.1
      have e14 : Ed g.dk H1 (upd H4 Dl (.lst (us ++ [v]))) := fun b o hb qb => by
        have : b ≠ Dl := fun z => by rw [z, hD] at qb; cases qb
        rw [upd_ne this]
        exact (e13.trans e4) b o hb qb
      have hcD : g.c ≠ Dl := fun z => by
        obtain ⟨_, _, z2, _⟩ := k1.deck
        rw [z, hD] at z2
        cases z2
      refine ⟨us, hD4, by rw [hA3.len]; exact hy4.1, acc ++ [y], n4, us ++ [v], e14, ?_, upd_same, ?_, hN2, hy4.2.2⟩
      · obtain ⟨d1, d2, d3, pp, qq, d4, d5⟩ := k4.deck
        exact ⟨d1, d2, by rw [upd_ne hcD]; exact d3, pp, qq, d4, by rw [upd_ne (Ne.symm hDdk)]; exact d5⟩
      · have h5 := hA4.nl (w' := own1 g.h Dl 0) (fun b zs hb => by
          unfold own1
          by_cases e : b = Dl
          · rw [e, hD4] at hb
            cases hb
          · rw [if_neg e]
            cases z : g.h b with
            | none => rfl
            | some x =>
              obtain ⟨us, z2⟩ := k4.hd b (by rw [z]; rfl)
              rw [hb] at z2
              cases z2) hN2
        refine h5.same fun b o qb => ?_
        obtain ⟨q1, q2⟩ := hw_some.mp qb
        have e : b ≠ Dl := fun z => by
          rw [z] at q1
          unfold own1 at q1
          rw [if_pos rfl] at q1
          cases q1
        unfold own1 at q1
        rw [if_neg e] at q1
        exact hw_some.mpr ⟨q1, by rw [upd_ne e]; exact q2⟩
    | false =>
      rw [if_neg Bool.false_ne_true] at hb ⊢
      exact ⟨acc, n3, us, e13, k3'.deck, hD3, hA3, hN, hb⟩
  · have e : i = xs.length := by omega
    subst e
    exact .inl ⟨stop, q acc n' Dl us H' (done acc n' hI) (e1.trans e') k' (free_of e1 (ne_dk k1.deck) hD) hDl hA⟩
end
end Ev

namespace Ev
open PySem PySem.Spec PyProof.Rows L2
section
variable {X : Cx} {tg e a b c iter elt : Expr} {es ifs : List Expr} {t ta tb tc te : TE} {tt tu : TT} {tA : TA} {p pa pb pc pe : DE} {pt pu : DT} {pA : DA} {pos apos : Pos} {st : Stmt} {sts sts' : List Stmt} {ts tz : TS} {q r : DS}
structure PLTs (X : Cx) (ifs : List Expr) (t : TT) (p : DT) : Prop where
  pt : PTs X ifs t
  lf : LfT t p
def dYes : DT := fun _ n Q => Q true n
theorem ts_nil : PLTs X [] tYes dYes := ⟨pts_nil, fun g H0 σ H ss n w Q Q1 k h q => q _ _ _ h (Ed.refl _ _) k⟩
theorem ts_one (h : PLT X c tt pt) : PLTs X [c] tt pt := ⟨pts_one h.pt, h.lf⟩
theorem f_lc {scope : Scope} {own : List (Str × Nat)} {wi : TI} {pi : DI} {gt : TG} {is : List Nat} {pg : DG} (hc : X.calm = true) (hN : X.N.Nodup) (hi : PLIc X tg iter wi pi) (ok : BlkOk X.N X.env.scope scope own)
    (hg : ∀ (s : Shared) (H : Hp) (C : Addr) (cl : List (Str × Addr)) (fp : List Addr), PLTg (X.blk s H scope (compEnvC scope cl C X.env) fp) tg gt is pg) (ht : ∀ (s : Shared) (H : Hp) (C : Addr) (cl : List (Str × Addr)) (fp : List Addr), PLTs (X.blk s H scope (compEnvC scope cl C X.env) fp) ifs tt pt)
    (he : ∀ (s : Shared) (H : Hp) (C : Addr) (cl : List (Str × Addr)) (fp : List Addr), PL (X.blk s H scope (compEnvC scope cl C X.env) fp) elt te pe) (hv : ∀ i ∈ is, i ∈ own.map (·.2) := by decide) (hs : ∀ x, foldedSetIterable iter X.env x = pure x := by intro _; rfl) :
    PLL X (.ListComp elt [⟨tg, iter, ifs, 0⟩] scope pos) (tLc wi gt tt te (own.map (·.2))) (dLc pi pg pt pe (own.map (·.2))) :=
  ⟨pe_lc hc hN hi.pi ok (fun s H C cl fp => (hg s H C cl fp).pg) (fun s H C cl fp => (ht s H C cl fp).pt) (fun s H C cl fp => (he s H C cl fp).pe) hs,
    lf_lc hi.lf (hg X.s_0 X.H_0 0 [] []).lf (ht X.s_0 X.H_0 0 [] []).lf (he X.s_0 X.H_0 0 [] []).lf hv⟩
theorem s_setLc {i : Nat} {y : Str} {py spos : Pos} {scope : Scope} {own : List (Str × Nat)} {wi : TI} {pi : DI} {gt : TG} {is : List Nat} {pg : DG} (hc : X.calm = true) (hN : X.N.Nodup) (hy : X.N[i]? = some y) (hyl : X.env.scope.names.lookup y = some .local)
    (hi : PLIc X tg iter wi pi) (ok : BlkOk X.N X.env.scope scope own)
    (hg : ∀ (s : Shared) (H : Hp) (C : Addr) (cl : List (Str × Addr)) (fp : List Addr), PLTg (X.blk s H scope (compEnvC scope cl C X.env) fp) tg gt is pg) (ht : ∀ (s : Shared) (H : Hp) (C : Addr) (cl : List (Str × Addr)) (fp : List Addr), PLTs (X.blk s H scope (compEnvC scope cl C X.env) fp) ifs tt pt)
    (he : ∀ (s : Shared) (H : Hp) (C : Addr) (cl : List (Str × Addr)) (fp : List Addr), PL (X.blk s H scope (compEnvC scope cl C X.env) fp) elt te pe) (hsw : swapsWith (.ListComp elt [⟨tg, iter, ifs, 0⟩] scope pos) (some (.Name y py)) spos.line X.env = pure true)
    (hv : ∀ i ∈ is, i ∈ own.map (·.2) := by decide) (hs : ∀ x, foldedSetIterable iter X.env x = pure x := by intro _; rfl) :
    PLS X (.Assign [.Name y py] (.ListComp elt [⟨tg, iter, ifs, 0⟩] scope pos) spos) (tAsg (tLc wi gt tt te (own.map (·.2))) (gName i)) (dSetL i (dLc pi pg pt pe (own.map (·.2)))) :=
  ⟨ps_setLc hc hN hy hyl hsw hi.pi ok (fun s H C cl fp => (hg s H C cl fp).pg) (fun s H C cl fp => (ht s H C cl fp).pt) (fun s H C cl fp => (he s H C cl fp).pe) hs,
    lf_setL (lf_lc hi.lf (hg X.s_0 X.H_0 0 [] []).lf (ht X.s_0 X.H_0 0 [] []).lf (he X.s_0 X.H_0 0 [] []).lf hv)⟩

/-! ### repr -/
def shows (d : PyData) : Prop := d.showable = true ∧ d.hasDict = false ∧ d.depth ≤ 100 ∧ d.shown.length ≤ sizeLine
def qRepr : List PyData → DP := fun ds Q => match ds with
  | [d] => shows d ∧ Q (.str d.shown)
  | _ => False
def rRepr (K : PySem.W.Frag) : List V → Hp → VK → Prop := fun xs H Q => ∃ v d, xs = [v] ∧ Dp K H v d ∧ shows d ∧ Q (.str d.shown) H
theorem call_reprD (hg : X.A.guards = some []) (hu : X.A.units + 200 < cLine) : CallR X (.builtin "repr") (rRepr X.K) := by
  intro pins s σ H xs us Q I r h
  obtain ⟨v, d, rfl, hd, ⟨s1, s2, s3, s4⟩, q⟩ := h
  obtain ⟨u, rfl, r2⟩ : ∃ u, us = [u] ∧ RelV v u := by
    cases r with
    | cons a b => cases b; exact ⟨_, rfl, a⟩
  have e : ∀ {y : V}, y = v → RelV y u := fun e => by rw [e]; exact r2
  cases hd with
  | non =>
    obtain rfl : u = Value.none := e rfl
    exact PySem.P.repr_of_none ⟨.str _, H, I.tok _, ⟨_, rfl⟩, q⟩
  | bl b =>
    obtain rfl : u = Value.bool b := e rfl
    exact PySem.P.repr_of_bool ⟨.str _, H, I.tok _, ⟨_, rfl⟩, q⟩
  | int i =>
    obtain ⟨t, rfl⟩ : ∃ t, u = Value.int i t := e rfl
    exact PySem.P.repr_of_int (by simpa [PyData.showable] using s1) ⟨.str _, H, I.tok _, ⟨_, rfl⟩, q⟩
  | str x =>
    obtain ⟨t, rfl⟩ : ∃ t, u = Value.str x t := e rfl
    exact PySem.P.repr_of_str ⟨.str _, H, I.tok _, ⟨_, rfl⟩, q⟩ s4
  | @lst a xs ds h1 h2 =>
    obtain rfl : u = Value.ref a := e rfl
    obtain ⟨as, rd⟩ := Dp.reads I _ _ _ (.lst h1 h2) rfl
    exact PySem.repr_of_reads' rd s1 (PySem.PyData.noDict_hsm s2) hg (by omega) (fun _ _ e => e) (fun h' u tk hk => ⟨.str _, H, I.kept hk, ⟨_, rfl⟩, q⟩) s4
  | @tup a xs ds h1 h2 =>
    obtain rfl : u = Value.ref a := e rfl
    obtain ⟨as, rd⟩ := Dp.reads I _ _ _ (.tup h1 h2) rfl
    exact PySem.repr_of_reads' rd s1 (PySem.PyData.noDict_hsm s2) hg (by omega) (fun _ _ e => e) (fun h' u tk hk => ⟨.str _, H, I.kept hk, ⟨_, rfl⟩, q⟩) s4
theorem b_repr (hg : X.A.guards = some []) (hu : X.A.units + 200 < cLine) : CB X (.builtin "repr") (rRepr X.K) qRepr := ⟨call_reprD hg hu, fun hh H xs ds Q Q1 hd h hq q => by
  cases h with
  | nil => exact hq.elim
  | @cons v vs d ds h r =>
    cases r with
    | cons _ _ => exact hq.elim
    | nil => exact ⟨v, d, rfl, (h.same hw_sub).dp, hq.1, q _ _ _ hq.2 (Same.refl H) (.str _)⟩⟩
theorem Room.u200 {k : Nat} {A : Around} (r : Room k A) : A.units + 200 < cLine := by have := r.un; omega

/-! ### any, all of ints and bools -/
def tru1 : PyData → Bool
  | .int i => i != 0
  | .bool b => b
  | _ => false
def isSc : PyData → Bool
  | .int _ => true
  | .bool _ => true
  | _ => false
theorem truth_sc {prog : Program} {w : World} {A : Around} {H : Hp} {vs : List V} {ds : List PyData} {its : List Value} (hA : DqA H vs ds) (hv : Vals vs its) (hs : ds.all isSc = true) :
    TruthOf prog w A (fun i v => its.toArray[i]? = some v) (fun i => (ds.map tru1).getD i false) := fun i v s Q E hv' hq => by
  have hv' : its[i]? = some v := by simpa using hv'
  have hi : i < vs.length := by
    rw [hv.length]
    exact (List.getElem?_eq_some_iff.mp hv').1
  obtain ⟨d, e1, r1⟩ := hA.getV (List.getElem?_eq_getElem hi)
  obtain ⟨u, e2, r2⟩ := hv.get (List.getElem?_eq_getElem hi)
  rw [hv'] at e2
  cases e2
  have hd : (ds.map tru1).getD i false = tru1 d := by rw [List.getD_eq_getElem?_getD, List.getElem?_map, e1] <;> rfl
  have hsd : isSc d = true := List.all_eq_true.mp hs d (List.mem_of_getElem? e1)
  have hq : Q ((ds.map tru1).getD i false) s := hq
  rw [hd] at hq
  revert r1 r2
  generalize vs[i] = y
  intro r1 r2
  cases r1 with
  | int j => obtain ⟨t, rfl⟩ := r2; exact PySem.P.truthy_int hq
  | bl k => cases r2; exact wpAny_truthy_bool hq
  | _ => cases hsd
def rAnyD (K : PySem.W.Frag) : List V → Hp → VK → Prop := fun vs H Q => ∃ (a : Addr) (us : List V) (ds : List PyData) (H1 : Hp), vs = [V.ref a] ∧ (SqL K H a us ∨ SqT K H a us) ∧ DqA H1 us ds ∧ ds.all isSc = true ∧ Q (.bl (ds.any tru1)) H
theorem any_range' (ds : List PyData) : (List.range ds.length).any (fun i => (ds.map tru1).getD i false) = ds.any tru1 := by
  have h := any_range (ds.map tru1)
  rw [List.length_map, List.any_map] at h
  exact h
theorem iter_tup {prog : Program} {w : World} {A : Around} {E : Value → Shared → Prop} {s : Shared} {l : Addr} {items : Array Value} {Q : Value → Shared → Prop} (hl : s.heap.IsTuple l items)
    (h : ∀ s₂ : Shared, s₂ = { s with heap := s.heap.push { cls := .type "tuple_iterator", data := .fields #[.ref l, .int 0 0] } } → (s₂.heap.IsTupleIter s.heap.objs.size l 0 ∧ s₂.heap.IsTuple l items) → l ≠ s.heap.objs.size → Q (.ref s.heap.objs.size) s₂) : wpAny (model prog w) A (pyIter (.ref l)) Q E s := by
  have hlt : l < s.heap.objs.size := by obtain ⟨_, e, _⟩ := hl; exact Heap.lt_size e
  refine wpAny_pyIter_tuple hl (h _ rfl ⟨⟨_, Heap.get?_push_size _ rfl, rfl, rfl⟩, ?_⟩ (Nat.ne_of_lt hlt))
  exact hl.push _
theorem call_anyD (hc : X.calm = true) : CallR X (.builtin "any") (rAnyD X.K) := by
  intro pins s σ H vs us Q I r h
  obtain ⟨a, zs, ds, H1, rfl, hs, hA, hsc, q⟩ := h
  rw [Vals.ref1 r]
  have fin : ∀ its : List Value, Vals zs its → ∀ (h' : Heap) (tk : Nat) (l : List Addr), (∀ b o, b ∉ l → (s.heap.push { cls := .type "list_iterator", data := .fields #[.ref a, .int 0 0] }).get? b = some o → h'.get? b = some o) → True := fun _ _ _ _ _ _ => trivial
  rcases hs with hs | hs
  · obtain ⟨its, rv, hl, _⟩ := I.list hs
    refine call_any_walk (iter_any hl.isList fun s₂ e2 st hne => ?_)
    subst e2
    refine ⟨_, _, _, _, _, _, _, rfl, Walks.list (A := X.A.in1) (I.ok.hd hc) _ a hne its.toArray, st, truth_sc hA rv hsc, fun h' tk hk => ?_⟩
    refine ⟨.bl _, H, I.kept fun b o eo => hk b o (fun hmem => ?_) (Heap.get?_push_of_some _ eo), ?_, q⟩
    · rcases List.mem_cons.mp hmem with e1 | hmem
      · exact absurd (e1 ▸ Heap.lt_size eo) (Nat.lt_irrefl _)
      · cases hmem
    · show Value.bool _ = Value.bool _
      rw [← any_range', List.size_toArray, ← rv.length, hA.len]
  · obtain ⟨its, rv, hl, _⟩ := I.tuple hs
    refine call_any_walk (iter_tup (show s.heap.IsTuple a its.toArray from hl) fun s₂ e2 st hne => ?_)
    subst e2
    refine ⟨_, _, _, _, _, _, _, rfl, Walks.tuple (A := X.A.in1) (I.ok.hd hc) _ a hne its.toArray, st, truth_sc hA rv hsc, fun h' tk hk => ?_⟩
    refine ⟨.bl _, H, I.kept fun b o eo => hk b o (fun hmem => ?_) (Heap.get?_push_of_some _ eo), ?_, q⟩
    · rcases List.mem_cons.mp hmem with e1 | hmem
      · exact absurd (e1 ▸ Heap.lt_size eo) (Nat.lt_irrefl _)
      · cases hmem
    · show Value.bool _ = Value.bool _
      rw [← any_range', List.size_toArray, ← rv.length, hA.len]
def qAny : List PyData → DP := fun ds Q => match ds with
  | [.list xs] => xs.all isSc = true ∧ Q (.bool (xs.any tru1))
  | [.tuple xs] => xs.all isSc = true ∧ Q (.bool (xs.any tru1))
  | _ => False
theorem b_any (hc : X.calm = true) : CB X (.builtin "any") (rAnyD X.K) qAny := ⟨call_anyD hc, fun hh H xs ds Q Q1 hd h hq q => by
  cases h with
  | nil => exact hq.elim
  | cons h r =>
    cases r with
    | cons _ _ => cases h <;> exact hq.elim
    | nil =>
      cases h with
      | @lst a vs ds ha hA => exact ⟨a, vs, ds, _, rfl, .inl (SqL.of (hsub ha)), hA, hq.1, q _ _ _ hq.2 (Same.refl H) (.bl _)⟩
      | @tup a vs ds ha hA => exact ⟨a, vs, ds, _, rfl, .inr (SqT.of (hsub ha)), hA, hq.1, q _ _ _ hq.2 (Same.refl H) (.bl _)⟩
      | _ => exact hq.elim⟩

/-! ### methods of texts -/
def dMt (q : PyData → PyData → DP) (pa pb : DE) : DE := fun ss n Q => pa ss n fun d n1 => (∃ z, d = .str z) ∧ pb ss n1 fun e n2 => q d e fun f => Q f n2
theorem lf_mt {r : V → List V → Hp → VK → Prop} {q : PyData → PyData → DP} (hr : LR (fun x y H Q => r x [y] H Q) q) (ha : Lf ta pa) (hb : Lf tb pb) : Lf (tM1 r ta tb) (dMt q pa pb) := fun g H0 σ H ss n w Q Q1 k h hq =>
  ha g H0 σ H ss n w _ _ k h fun d n1 v H1 h1 e1 k1 r1 => by
    obtain ⟨⟨z, rfl⟩, h1⟩ := h1
    cases r1
    refine ⟨⟨z, rfl⟩, hb g H0 σ H1 ss n1 w _ _ k1 h1 fun e n2 u H2 h2 e2 k2 r2 => ?_⟩
    exact hr g.h H2 (.str z) u (.str z) e Q _ k2.hd (.str z) r2 h2 fun z H3 f h3 e3 r3 => hq f n2 z H3 h3 ((e1.trans e2).trans (Ed.of e3)) (k2.same e3) r3
theorem l_join {o : Expr} {to : TE} {po : DE} (ho : PL X o to po) (he : PL X e ta pa) (hs : starEach [e] X.env = [(false, eval e X.env)] := by rfl) (hb : attributeBase o (Str.ofString "join") X.env (eval o X.env) = eval o X.env := by rfl) (hl : (apos.endLine == pos.line) = true := by rfl) :
    PL X (.Call (.Attribute o "join" apos) [e] [] pos) (tM1 (fun x xs H Q => ∃ a p ys, x = V.str a ∧ xs = [V.ref p] ∧ (SqL X.K H p (List.map V.str ys) ∨ SqT X.K H p (List.map V.str ys)) ∧ (List.map (fun x => x.length) ys).sum + ys.length * a.length ≤ 16777216 ∧ Q (V.str (Txt.join a ys)) H) to ta) (dMt qJoin po pa) :=
  ⟨pe_join ho.pe he.pe hs hb hl, lf_mt (fun hh H x y d e Q Q1 hd hx hy h q => by
    cases hx with
    | str z =>
      cases hy with
      | @lst a vs ds ha hA =>
        obtain ⟨ys, rfl, h1, h2⟩ := h
        exact ⟨z, a, ys, rfl, rfl, .inl (by rw [← strs_of hA]; exact SqL.of (hsub ha)), h1, q _ _ _ h2 (Same.refl H) (.str _)⟩
      | _ => exact h.elim
    | _ => cases hy <;> exact h.elim) ho.lf he.lf⟩
end
end Ev

namespace Ev
open PySem PySem.Spec PyProof.Rows L2
/-- the names of built-ins stand for them -/
structure Blt (mg : Str → Option Value) : Prop where
  len : mg "len" = none
  int : mg "int" = none
  abs : mg "abs" = none
  sum : mg "sum" = none
  any : mg "any" = none
  all : mg "all" = none
  min : mg "min" = none
  max : mg "max" = none
  repr : mg "repr" = none
  range : mg "range" = none
  zip : mg "zip" = none
  tuple : mg "tuple" = none
  list : mg "list" = none
  isinstance : mg "isinstance" = none
  enumerate : mg "enumerate" = none
  str : mg "str" = none
  bool : mg "bool" = none
  ValueError : mg "ValueError" = none
/-- a def of the text -/
def Txt (K : PySem.W.Frag) (mg : Str → Option Value) (x : Str) (st : Stmt) (ps : List Str) : Prop := ∃ f fd, Fun K x x st f fd ∧ mg x = some (.ref f) ∧ Binds K fd ps []
/-- a def that keeps a promise -/
def Cal (P : Program) (w : World) (K : PySem.W.Frag) (mg : Str → Option Value) (base : Heap) (x : Str) (ps : List Str) (k : Nat) (sp : Sp) : Prop :=
  ∃ f fd, FnG P w K mg base CX0 k f fd ps sp ∧ mg x = some (.ref f) ∧ PySem.W.keepIn K (.ref f) = true ∧ Binds K fd ps []
section
variable {P : Program} {w : World} {K : PySem.W.Frag} {mg : Str → Option Value} {base : Heap}
theorem Txt.cal {x : Str} {st : Stmt} {ps : List Str} {k : Nat} {sp : Sp} (T : Txt K mg x st ps) (h : ∀ f fd, Fun K x x st f fd → FnG P w K mg base CX0 k f fd ps sp) : Cal P w K mg base x ps k sp := by
  obtain ⟨f, fd, U, hm, hb⟩ := T
  exact ⟨f, fd, h f fd U, hm, U.kp, hb⟩
theorem Cal.mono {x : Str} {ps : List Str} {k j : Nat} {sp : Sp} (C : Cal P w K mg base x ps j sp) (h : j ≤ k) : Cal P w K mg base x ps k sp := by
  obtain ⟨f, fd, G, r⟩ := C
  exact ⟨f, fd, G.mono h, r⟩
theorem Txt.def {N ps : List Str} {x : Str} {st : Stmt} {F : DF} {p : DS} {k : Nat} (T : Txt K mg x st ps) (S : FnScope N ps (defScope st)) (len : ∀ as n Q, F as n Q → as.length = ps.length)
    (body : ∀ (f : Addr) (cdv : Value) (A : Around) (o : List Env) (s : Shared) (H : Hp) (E : XK), Room k (cxB P w K mg base N x st f cdv A o s H E).A → (cxB P w K mg base N x st f cdv A o s H E).A.guards = some [] → ∃ t, PLB (cxB P w K mg base N x st f cdv A o s H E) (defBody st) t p)
    (h : ∀ as n Q, F as n Q → p { nx := fun _ n' => Q .none n', rt := Q } (startS N as) n) : Cal P w K mg base x ps (k + 1) (spD F) :=
  T.cal fun f fd U => fn_def U S len (body f) h
theorem Txt.defL {N ps : List Str} {x : Str} {st : Stmt} {F : DFL} {p : DS} {k : Nat} (T : Txt K mg x st ps) (S : FnScope N ps (defScope st)) (len : ∀ as n Q, F as n Q → as.length = ps.length)
    (body : ∀ (f : Addr) (cdv : Value) (A : Around) (o : List Env) (s : Shared) (H : Hp) (E : XK), Room k (cxB P w K mg base N x st f cdv A o s H E).A → (cxB P w K mg base N x st f cdv A o s H E).A.guards = some [] → ∃ t, PLB (cxB P w K mg base N x st f cdv A o s H E) (defBody st) t p)
    (h : ∀ as n Q, F as n Q → p { nx := fun _ _ => False, rt := fun _ _ => False, rl := Q } (startS N as) n) : Cal P w K mg base x ps (k + 1) (spL F) :=
  T.cal fun f fd U => fn_defL U S len (body f) h
end
section
variable {X : Cx} {e : Expr} {es : List Expr} {tA : TA} {pA : DA} {pos p0 : Pos} {k : Nat} {x : Str} {ps : List Str}
theorem l_cal {F : DF} (C : Cal X.prog X.w X.K X.mg X.base x ps k (spD F)) (hr : Room k X.A) (hgd : X.A.guards = some []) (hg : Gl X x) (ha : PLA X (e :: es) tA pA) (hdb : (x == ("__debug__" : Str)) = false := by decide)
    (he : starEach (e :: es) X.env = (false, eval e X.env) :: starEach es X.env := by rfl) (hpl : (backTo pos (starEach es X.env)).any (·.1) = false := by rfl) :
    PL X (.Call (.Name x p0) (e :: es) [] pos) (tCallG (spD F) E0 tA) (dFn F pA) := by
  obtain ⟨f, fd, G, hm, hk, hb⟩ := C
  exact l_fn G hr hgd hg hm hk hb ha hdb he hpl
theorem f_cal {F : DFL} (C : Cal X.prog X.w X.K X.mg X.base x ps k (spL F)) (hr : Room k X.A) (hgd : X.A.guards = some []) (hg : Gl X x) (ha : PLA X (e :: es) tA pA) (hdb : (x == ("__debug__" : Str)) = false := by decide)
    (he : starEach (e :: es) X.env = (false, eval e X.env) :: starEach es X.env := by rfl) (hpl : (backTo pos (starEach es X.env)).any (·.1) = false := by rfl) :
    PLL X (.Call (.Name x p0) (e :: es) [] pos) (tCallG (spL F) E0 tA) (dFnL F pA) := by
  obtain ⟨f, fd, G, hm, hk, hb⟩ := C
  exact f_fn G hr hgd hg hm hk hb ha hdb he hpl
end
/-! ### what data tell -/
theorem atI_ofNat {α : Type} {xs : List α} {i : Nat} : atI xs (i : Int) = xs[i]? := by
  cases h : xs[i]? with
  | some x => exact atI_nat h
  | none =>
    have hl := List.getElem?_eq_none_iff.mp h
    unfold atI ixN
    rw [if_pos (by omega), if_neg (by omega)]
    rfl
theorem atI_zero {α : Type} {xs : List α} : atI xs (0 : Int) = xs[0]? := atI_ofNat (i := 0)
theorem atI_one {α : Type} {xs : List α} : atI xs (1 : Int) = xs[1]? := atI_ofNat (i := 1)
theorem atI_two {α : Type} {xs : List α} : atI xs (2 : Int) = xs[2]? := atI_ofNat (i := 2)
theorem atI_three {α : Type} {xs : List α} : atI xs (3 : Int) = xs[3]? := atI_ofNat (i := 3)
end Ev

namespace Ev
open PySem PySem.Spec PyProof.Rows L2
section
variable {pi : DI} {pe : DE} {vs : List Nat} {ss : List S} {n : Nat} {Q : DLQ} {j i : Nat}
theorem NLA_map {α : Type} {l : List α} {f : α → PyData} (h : ∀ a ∈ l, NL (f a) = true) : NLA (l.map f) = true := NLA_all.mpr fun x hx => by
  obtain ⟨a, ha, rfl⟩ := List.mem_map.mp hx
  exact h a ha
/-- each item by a function -/
theorem lc_map (xs : List PyData) (n1 : Nat) (f : PyData → PyData) (ho : okW ss vs = true) (hpi : ∀ R : List PyData → Nat → Prop, R xs n1 → pi ss n R) (hl : xs.length ≤ sizeLine)
    (he : ∀ d ∈ xs, NL (f d) = true ∧ ∀ R : DQ, R (f d) n1 → pe ((wipeS ss vs).set j (.d d)) n1 R) (hq : Q (xs.map f) n1) : dLc pi (dgName j) dYes pe vs ss n Q := by
  refine ⟨ho, hpi _ ⟨fun i acc n' => acc = (xs.take i).map f ∧ n' = n1, ⟨by simp, rfl⟩, fun i d acc n' hd ⟨e1, e2⟩ => ?_, fun acc n' ⟨e1, e2⟩ => ?_⟩⟩
  · subst e1 e2
    have hi := (List.getElem?_eq_some_iff.mp hd).1
    obtain ⟨h1, h2⟩ := he d (List.mem_of_getElem? hd)
    dsimp only [dYes, dgName]
    rw [if_pos rfl]
    refine h2 _ ⟨?_, h1, ?_, rfl⟩
    · rw [List.length_map, List.length_take]; omega
    · rw [List.take_add_one, hd, List.map_append] <;> rfl
  · subst e1 e2
    rw [List.take_length]
    exact hq
/-- each item drawn -/
theorem lc_draw (G : List PyData → Nat → Prop) (c : Nat) (Pel : PyData → Prop) (ho : okW ss vs = true) (hpi : ∀ R : List PyData → Nat → Prop, (∀ xs n1, G xs n1 → R xs n1) → pi ss n R) (hnl : ∀ y, Pel y → NL y = true)
    (he : ∀ xs n1, G xs n1 → xs.length ≤ sizeLine ∧ (∀ d ∈ xs, ∀ n', n1 ≤ n' → n' ≤ n1 + c * xs.length → ∀ R : DQ, (∀ y n4, Pel y → n' ≤ n4 → n4 ≤ n' + c → R y n4) → pe ((wipeS ss vs).set j (.d d)) n' R) ∧
      ∀ acc n', acc.length = xs.length → (∀ y ∈ acc, Pel y) → n1 ≤ n' → n' ≤ n1 + c * xs.length → Q acc n') : dLc pi (dgName j) dYes pe vs ss n Q := by
  refine ⟨ho, hpi _ fun xs n1 hg => ?_⟩
  obtain ⟨h1, h2, h3⟩ := he xs n1 hg
  refine ⟨fun i acc n' => acc.length = i ∧ (∀ y ∈ acc, Pel y) ∧ n1 ≤ n' ∧ n' ≤ n1 + c * i, ⟨rfl, (fun y hy => by cases hy), Nat.le_refl _, Nat.le_add_right _ _⟩, fun i d acc n' hd ⟨e1, e2, e3, e4⟩ => ?_, fun acc n' ⟨e1, e2, e3, e4⟩ => h3 acc n' e1 e2 e3 e4⟩
  have hi := (List.getElem?_eq_some_iff.mp hd).1
  have hm : c * i ≤ c * xs.length := Nat.mul_le_mul_left _ (by omega)
  dsimp only [dYes, dgName]
  rw [if_pos rfl]
  refine h2 d (List.mem_of_getElem? hd) n' e3 (by omega) _ fun y n4 hy h4 h5 => ⟨by omega, hnl y hy, by simp [e1], fun z hz => ?_, by omega, ?_⟩
  · rcases List.mem_append.mp hz with hz | hz
    · exact e2 z hz
    · rw [List.mem_singleton.mp hz]; exact hy
  · rw [Nat.mul_add, Nat.mul_one]; omega
/-- pairs taken apart, each by a function -/
theorem lc_map2 (xs : List PyData) (n1 : Nat) (f : PyData → PyData → PyData) (ps : List (PyData × PyData)) (hx : xs = ps.map fun p => .tuple [p.1, p.2]) (ho : okW ss vs = true) (hpi : ∀ R : List PyData → Nat → Prop, R xs n1 → pi ss n R) (hl : ps.length ≤ sizeLine)
    (he : ∀ p ∈ ps, NL (f p.1 p.2) = true ∧ ∀ R : DQ, R (f p.1 p.2) n1 → pe (((wipeS ss vs).set i (.d p.1)).set j (.d p.2)) n1 R) (hq : Q (ps.map fun p => f p.1 p.2) n1) :
    dLc pi (dgTup 2 (dgCons (dgName i) (dgCons (dgName j) dgNil))) dYes pe vs ss n Q := by
  subst hx
  refine ⟨ho, hpi _ ⟨fun i acc n' => acc = (ps.take i).map (fun p => f p.1 p.2) ∧ n' = n1, ⟨by simp, rfl⟩, fun m d acc n' hd ⟨e1, e2⟩ => ?_, fun acc n' ⟨e1, e2⟩ => ?_⟩⟩
  · subst e1 e2
    rw [List.getElem?_map] at hd
    obtain ⟨p, hp, rfl⟩ := Option.map_eq_some_iff.mp hd
    have hi := (List.getElem?_eq_some_iff.mp hp).1
    obtain ⟨h1, h2⟩ := he p (List.mem_of_getElem? hp)
    refine ⟨_, rfl, rfl, rfl, ?_⟩
    dsimp only [dYes, dgCons, dgName]
    rw [if_pos rfl]
    refine h2 _ ⟨?_, h1, ?_, rfl⟩
    · rw [List.length_map, List.length_take]; omega
    · rw [List.take_add_one, hp, List.map_append] <;> rfl
  · subst e1 e2
    rw [List.length_map, List.take_length]
    exact hq
end
theorem datas_cons {x : PyData} {as : List W} : datas (.d x :: as) = match datas as with | some ds => some (x :: ds) | none => none := rfl
end Ev

namespace Ev
open PySem PySem.Spec PyProof.Rows L2
/-- a text of its signs -/
def ofL (l : List Nat) : Str := ⟨l.toArray⟩
theorem ofL_list (l : List Nat) : (ofL l).cps.toList = l := by simp [ofL]
theorem ofL_of (x : Str) : ofL x.cps.toList = x := str_ext (ofL_list _)
theorem ofL_len (l : List Nat) : (ofL l).length = l.length := by rw [str_len, ofL_list]
theorem app_list (x y : Str) : (x ++ y).cps.toList = x.cps.toList ++ y.cps.toList := by
  show (x.cps ++ y.cps).toList = _
  simp
theorem ofL_app (a b : List Nat) : ofL a ++ ofL b = ofL (a ++ b) := str_ext (by rw [app_list, ofL_list, ofL_list, ofL_list])
theorem sjoin_list : ∀ ys : List Str, (Str.join "" ys).cps.toList = (ys.map fun y => y.cps.toList).flatten
  | [] => rfl
  | [x] => by simp [Str.join]
  | x :: y :: r => by
    have ih := sjoin_list (y :: r)
    unfold Str.join
    rw [app_list, app_list, ih]
    simp
    rfl
theorem join_list (ys : List Str) : (Txt.join "" ys).cps.toList = (ys.map fun y => y.cps.toList).flatten := by
  have h : Txt.join "" ys = Str.join "" ys := eq_of_beq (PyProof.Rows.join_plain_closes _ _)
  rw [h, sjoin_list]
theorem join_len (ys : List Str) : (Txt.join "" ys).length = (ys.map fun y => y.length).sum := by
  rw [str_len, join_list, List.length_flatten, List.map_map]
  congr 1
/-! what operations tell of data of a known kind -/
section
variable {Q : PyData → Prop} {QB : Bool → Prop} {i j : Int} {x y : Str} {xs ys : List PyData} {lo hi : Option Int} {a b : Bool} {d e : PyData}
theorem qAdd_i : qAdd (.int i) (.int j) Q = Q (.int (i + j)) := rfl
theorem qAdd_s : qAdd (.str x) (.str y) Q = (x.length + y.length ≤ sizeLine ∧ Q (.str (x ++ y))) := rfl
theorem qAdd_t : qAdd (.tuple xs) (.tuple ys) Q = (xs.length + ys.length ≤ sizeLine ∧ Q (.tuple (xs ++ ys))) := rfl
theorem qAdd_l : qAdd (.list xs) (.list ys) Q = (xs.length + ys.length ≤ sizeLine ∧ Q (.list (xs ++ ys))) := rfl
theorem qSub_i : qSub (.int i) (.int j) Q = Q (.int (i - j)) := rfl
theorem qDiv_i : qDiv (.int i) (.int j) Q = (CDivW i j ∧ Q (.int (i / j))) := rfl
theorem qMod_i : qMod (.int i) (.int j) Q = (j ≠ 0 ∧ Q (.int (i.fmod j))) := rfl
theorem qPow_i : qPow (.int i) (.int j) Q = (CPow i j ∧ Q (.int (i ^ j.toNat))) := rfl
theorem qMul_i : qMul (.int i) (.int j) Q = (CMulW i j ∧ Q (.int (i * j))) := rfl
theorem qMul_s : qMul (.str x) (.int j) Q = (-(2 ^ 63) ≤ j ∧ j < 2 ^ 63 ∧ x.length * j.toNat ≤ sizeLine ∧ Q (.str (srep x j.toNat))) := rfl
theorem qMul_t : qMul (.tuple xs) (.int j) Q = (-1000 ≤ j ∧ j ≤ 1000 ∧ xs.length ≤ 1000 ∧ Q (.tuple (List.replicate j.toNat xs).flatten)) := rfl
theorem qMul_l : qMul (.list xs) (.int j) Q = (-(2 ^ 63) ≤ j ∧ j < 2 ^ 63 ∧ xs.length * j.toNat ≤ sizeLine ∧ Q (.list (List.replicate j.toNat xs).flatten)) := rfl
theorem qLt_i : qLt (.int i) (.int j) Q = Q (.bool (decide (i < j))) := rfl
theorem qLe_i : qLe (.int i) (.int j) Q = Q (.bool (decide (i ≤ j))) := rfl
theorem qGt_i : qGt (.int i) (.int j) Q = Q (.bool (decide (i > j))) := rfl
theorem qGe_i : qGe (.int i) (.int j) Q = Q (.bool (decide (i ≥ j))) := rfl
theorem qIx_l : qIx (.list xs) (.int i) Q = (∃ x, atI xs i = some x ∧ Q x) := rfl
theorem qIx_t : qIx (.tuple xs) (.int i) Q = (∃ x, atI xs i = some x ∧ Q x) := rfl
theorem qIx_s : qIx (.str x) (.int i) Q = (x.length ≤ sizeLine ∧ ∃ c, atI x.cps.toList i = some c ∧ Q (.str ⟨#[c]⟩)) := rfl
theorem qSl_l : qSl (.list xs) lo hi Q = Q (.list (cut xs lo hi)) := rfl
theorem qSl_t : qSl (.tuple xs) lo hi Q = Q (.tuple (cut xs lo hi)) := rfl
theorem qSl_s : qSl (.str x) lo hi Q = (x.length ≤ sizeLine ∧ Q (.str (cutS x lo hi))) := rfl
theorem qLen_l : qLen [.list xs] Q = Q (.int xs.length) := rfl
theorem qLen_t : qLen [.tuple xs] Q = Q (.int xs.length) := rfl
theorem qLen_s : qLen [.str x] Q = (x.length ≤ sizeLine ∧ Q (.int x.length)) := rfl
theorem qInt_i : qIntOf [.int i] Q = Q (.int i) := rfl
theorem qInt_b : qIntOf [.bool a] Q = Q (.int (if a = true then 1 else 0)) := rfl
theorem qMin_i : qMin [.int i, .int j] Q = Q (.int (if j < i then j else i)) := rfl
theorem qTup_l : qTupOf [.list xs] Q = Q (.tuple xs) := rfl
theorem qTup_t : qTupOf [.tuple xs] Q = Q (.tuple xs) := rfl
theorem qLst_l : qLstOf [.list xs] Q = Q (.list xs) := rfl
theorem qLst_t : qLstOf [.tuple xs] Q = Q (.list xs) := rfl
theorem qTru_n : qTru .none QB = QB false := rfl
theorem qTru_b : qTru (.bool a) QB = QB a := rfl
theorem qTru_i : qTru (.int i) QB = QB (i != 0) := rfl
theorem qTru_s : qTru (.str x) QB = (x.length ≤ sizeLine ∧ QB ((x.length : Int) != 0)) := rfl
theorem qTru_l : qTru (.list xs) QB = QB (!xs.isEmpty) := rfl
theorem qTru_t : qTru (.tuple xs) QB = QB (!xs.isEmpty) := rfl
theorem qSum_l : qSum [.list xs] Q = (∃ ns : List Int, xs = ns.map PyData.int ∧ Q (.int ns.sum)) := rfl
theorem qAny_l : qAny [.list xs] Q = (xs.all isSc = true ∧ Q (.bool (xs.any tru1))) := rfl
theorem qAny_t : qAny [.tuple xs] Q = (xs.all isSc = true ∧ Q (.bool (xs.any tru1))) := rfl
theorem qJoin_l : qJoin (.str x) (.list xs) Q = (∃ ys : List Str, xs = ys.map PyData.str ∧ (ys.map (·.length)).sum + ys.length * x.length ≤ 16777216 ∧ Q (.str (Txt.join x ys))) := rfl
theorem qCount_s : qCount (.str x) (.str y) Q = Q (.int (Txt.count x y)) := rfl
theorem qEq_e : qEq d e Q = (okD d = true ∧ okD e = true ∧ Q (.bool (PyData.eqv d e))) := rfl
theorem qNe_e : qNe d e Q = (okD d = true ∧ okD e = true ∧ Q (.bool (!PyData.eqv d e))) := rfl
theorem qRepr_e : qRepr [d] Q = (shows d ∧ Q (.str d.shown)) := rfl
theorem q_add (h : Q (.int (i + j))) : qAdd (.int i) (.int j) Q := h
theorem q_sub (h : Q (.int (i - j))) : qSub (.int i) (.int j) Q := h
theorem q_mul (c : CMulW i j) (h : Q (.int (i * j))) : qMul (.int i) (.int j) Q := ⟨c, h⟩
theorem shp_i : okD (.int i) = true := by simp [okD, PyData.plain, PyData.depth]
theorem shp_s : okD (.str x) = true := by simp [okD, PyData.plain, PyData.depth]
theorem shp_b : okD (.bool a) = true := by simp [okD, PyData.plain, PyData.depth]
theorem shp_n : okD .none = true := by simp [okD, PyData.plain, PyData.depth]
theorem shp_e : okD (.list []) = true := by simp [okD, PyData.plain, PyData.depth, PyData.plainAll, PyData.depthAll]
theorem shp_z : okD (.tuple []) = true := by simp [okD, PyData.plain, PyData.depth, PyData.plainAll, PyData.depthAll]
theorem eqv_i : PyData.eqv (.int i) (.int j) = decide (i = j) := by simp only [PyData.eqv]; exact Bool.beq_eq_decide_eq i j
theorem eqv_s : PyData.eqv (.str x) (.str y) = decide (x = y) := by
  simp only [PyData.eqv]
  by_cases h : x = y
  · subst h
    simp
  · rw [decide_eq_false h]
    exact beq_eq_false_iff_ne.mpr h
theorem eqv_tt : PyData.eqv (.str (Str.ofString "text")) (.str (Str.ofString "text")) = true := by rw [eqv_s]; simp
theorem eqv_lt : PyData.eqv (.str (Str.ofString "loop")) (.str (Str.ofString "text")) = false := by rw [eqv_s]; decide +kernel
theorem ix0 {a : PyData} {l : List PyData} : atI (a :: l) 0 = some a := by rw [atI_zero]; rfl
theorem ix1 {a b : PyData} {l : List PyData} : atI (a :: b :: l) 1 = some b := by rw [atI_one]; rfl
theorem ix2 {a b c : PyData} {l : List PyData} : atI (a :: b :: c :: l) 2 = some c := by rw [atI_two]; rfl
theorem dSeq_e {q r : DS} {DD : DEnds} {ss : List S} {n : Nat} : dSeq q r DD ss n = q { DD with nx := r DD } ss n := rfl
end
end Ev

namespace Ev
open PySem PySem.Spec PyProof.Rows L2
/-! the same rules, the written part told by its own letter -/
section
variable {X : Cx} {K : PySem.W.Frag} {tg e a b c : Expr} {es : List Expr} {t ta tb tc : TE} {tt tu : TT} {tA : TA} {p pa pb pc : DE} {pt pu : DT} {pA : DA} {pos apos : Pos}
theorem k_add (hK : X.K = K) (ha : PL X a ta pa) (hb : PL X b tb pb) : PL X (.BinOp a .Add b pos) (tOp (rAdd' K) ta tb) (dOp qAdd pa pb) := by subst hK; exact l_add ha hb
theorem k_mul (hK : X.K = K) (ha : PL X a ta pa) (hb : PL X b tb pb) : PL X (.BinOp a .Mult b pos) (tOp (rMul' K) ta tb) (dOp qMul pa pb) := by subst hK; exact l_mul ha hb
theorem k_eq (hK : X.K = K) (hu : X.A.units + 64 < cLine) : CR2 X .Eq (rEqP K) qEq := by subst hK; exact c_eq hu
theorem k_ne (hK : X.K = K) (hu : X.A.units + 64 < cLine) : CR2 X .NotEq (rNeP K) qNe := by subst hK; exact c_ne hu
theorem k_tru (hK : X.K = K) (ha : PL X a ta pa) (h : ∀ (whole : Sem Value), PySem.isTrue a X.env whole = do { let v ← whole; standAt a.pos; holding [v] (truthy v) } := by intro _; rfl) : PLT X a (tTru K ta) (dTru pa) := by subst hK; exact lt_tru ha h
theorem k_not (hK : X.K = K) (ha : PL X a ta pa) : PL X (.UnaryOp .Not a pos) (tNotT K ta) (dNotV pa) := by subst hK; exact l_not ha
theorem k_and {rest : List Expr} (hK : X.K = K) (ha : PL X a ta pa) (hb : PL X (.BoolOp .And (b :: rest) pos) tb pb) : PL X (.BoolOp .And (a :: b :: rest) pos) (tAndT K ta tb) (dAndV pa pb) := by subst hK; exact l_and ha hb
theorem k_or {rest : List Expr} (hK : X.K = K) (ha : PL X a ta pa) (hb : PL X (.BoolOp .Or (b :: rest) pos) tb pb) : PL X (.BoolOp .Or (a :: b :: rest) pos) (tOrT K ta tb) (dOrV pa pb) := by subst hK; exact l_or ha hb
theorem k_ix (hK : X.K = K) (ha : PL X a ta pa) (hb : PL X b tb pb) (hs : PlainIx b := by intro _ _; rfl) : PL X (.Subscript a b pos) (tOp (rIx K) ta tb) (dOp qIx pa pb) := by subst hK; exact l_ix ha hb hs
theorem k_sl {lo hi : Option Expr} {tl th : TO} {pl ph : DO} {p2 : Pos} (hK : X.K = K) (ha : PL X a ta pa) (hl : PLO X lo tl pl) (hu : PLO X hi th ph) : PL X (.Subscript a (.Slice lo hi none p2) pos) (tSl (rSl' K) ta tl th) (dSl pa pl ph) := by subst hK; exact l_sl ha hl hu
theorem kb_len (hK : X.K = K) : CB X (.builtin "len") (fun xs H Q => ∃ x n, xs = [x] ∧ LenV K x H n ∧ Q (V.int n) H) qLen := by subst hK; exact b_len
theorem kb_sum (hK : X.K = K) (hc : X.calm = true) : CB X (.builtin "sum") (rSum K) qSum := by subst hK; exact b_sum hc
theorem kb_any (hK : X.K = K) (hc : X.calm = true) : CB X (.builtin "any") (rAnyD K) qAny := by subst hK; exact b_any hc
theorem kb_tuple (hK : X.K = K) : CB X (.type "tuple") (fun xs H Q => ∃ p ys, xs = [V.ref p] ∧ ((SqL K H p ys ∧ ∀ (l : Addr), H l = none → Q (V.ref l) (upd H l (HO.tup ys))) ∨ SqT K H p ys ∧ Q (V.ref p) H)) qTupOf := by subst hK; exact b_tuple
theorem kb_list (hK : X.K = K) : CB X (.type "list") (fun xs H Q => ∃ p ys, xs = [V.ref p] ∧ (SqL K H p ys ∨ SqT K H p ys) ∧ ∀ (l : Addr), H l = none → Q (V.ref l) (upd H l (HO.lst ys))) qLstOf := by subst hK; exact b_list
theorem kb_repr (hK : X.K = K) (hg : X.A.guards = some []) (hu : X.A.units + 200 < cLine) : CB X (.builtin "repr") (rRepr K) qRepr := by subst hK; exact b_repr hg hu
theorem k_join {o : Expr} {to : TE} {po : DE} (hK : X.K = K) (ho : PL X o to po) (he : PL X e ta pa) (hs : starEach [e] X.env = [(false, eval e X.env)] := by rfl) (hb : attributeBase o (Str.ofString "join") X.env (eval o X.env) = eval o X.env := by rfl) (hl : (apos.endLine == pos.line) = true := by rfl) :
    PL X (.Call (.Attribute o "join" apos) [e] [] pos) (tM1 (fun x xs H Q => ∃ a p ys, x = V.str a ∧ xs = [V.ref p] ∧ (SqL K H p (List.map V.str ys) ∨ SqT K H p (List.map V.str ys)) ∧ (List.map (fun x => x.length) ys).sum + ys.length * a.length ≤ 16777216 ∧ Q (V.str (Txt.join a ys)) H) to ta) (dMt qJoin po pa) := by
  subst hK; exact l_join ho he hs hb hl
theorem k_seq (hK : X.K = K) (ha : PL X a ta pa) : PLI X tg a (iSeq K ta) (diSeq pa) := by subst hK; exact i_seq ha
theorem k_L {pl : DL} (hK : X.K = K) (ha : PLL X a ta pl) : PLI X tg a (iSeq K ta) (diL pl) := by subst hK; exact i_L ha
theorem k_zip {p0 tpos : Pos} {elts : List Expr} {kk : Nat} (hK : X.K = K) (hg : Gl X "zip") (hm : X.mg "zip" = none) (ha : PLA X [a, b] tA pA) (hs : starEach [a, b] X.env = (false, eval a X.env) :: starEach [b] X.env := by rfl) (hpl : (backTo pos (starEach [b] X.env)).any (·.1) = false := by rfl) :
    PLI X (.Tuple elts kk tpos) (.Call (.Name "zip" p0) [a, b] [] pos) (RZ.iZipA K tA) (diZip pA) := by subst hK; exact i_zip hg hm ha hs hpl
theorem k_tup {k n : Nat} {tr : TGs} {is : List Nat} {pr : DGs} (hK : X.K = K) (hc : X.calm = true) (h : PLTgs X es tr is pr) (hn : (assignEach es X.env).length = n := by rfl) (hst : List.findIdx? (fun x => x.fst) (assignEach es X.env) = none := by rfl) :
    PLTg X (.Tuple es k pos) (gTup K n tr) is (dgTup n pr) := by subst hK; exact g_tup hc h hn hst
/-- texts' count -/
theorem l_count {o : Expr} {to : TE} {po : DE} (ho : PL X o to po) (he : PL X e ta pa) (hs : starEach [e] X.env = [(false, eval e X.env)] := by rfl) (hb : attributeBase o (Str.ofString "count") X.env (eval o X.env) = eval o X.env := by rfl) (hl : (apos.endLine == pos.line) = true := by rfl) :
    PL X (.Call (.Attribute o "count" apos) [e] [] pos) (tM1 (fun x xs H Q => ∃ a b, x = V.str a ∧ xs = [V.str b] ∧ Q (V.int (Txt.count a b)) H) to ta) (dMt qCount po pa) :=
  ⟨pe_m1 PySem.F.slot_str_count PySem.F.type_str_count mt_count ho.pe he.pe hs hb hl, lf_mt (fun hh H x y d e Q Q1 hd hx hy h q => by
    cases hx with
    | str z =>
      cases hy with
      | str y => exact ⟨z, y, rfl, rfl, q _ _ _ h (Same.refl H) (.int _)⟩
      | _ => exact h.elim
    | _ => cases hy <;> exact h.elim) ho.lf he.lf⟩
def qNeg : PyData → DP := fun d Q => match d with
  | .int i => Q (.int (-i))
  | _ => False
def dNeg (p : DE) : DE := fun ss n Q => p ss n fun d n' => qNeg d fun f => Q f n'
theorem qNeg_i {i : Int} {Q : PyData → Prop} : qNeg (.int i) Q = Q (.int (-i)) := rfl
theorem l_neg (ha : PL X a ta pa) : PL X (.UnaryOp .USub a pos) (tUn (rU fun i => V.int (-i)) ta) (dNeg pa) := ⟨pe_un un_neg ha.pe, fun g H0 σ H ss n w Q Q1 k hp q => ha.lf g H0 σ H ss n w _ _ k hp fun d n' v H' h1 e1 k1 r1 => by
  cases r1 with
  | int i => exact ⟨i, rfl, q _ _ _ _ h1 e1 k1 (.int _)⟩
  | _ => exact h1.elim⟩
end
end Ev

namespace Ev
open PySem PySem.Spec PyProof.Rows L2
/-! ### zip of a list and a tuple -/
def ItzM (K : PySem.W.Frag) (a b : Addr) : It :=
  ⟨fun i H => ∃ (us ws : List V) (x y : V), SqL K H a us ∧ SqT K H b ws ∧ us[i]? = some x ∧ ws[i]? = some y,
    fun i H v H' => ∃ T x y, v = .ref T ∧ H T = none ∧ H' = upd H T (.tup [x, y]) ∧ (∀ us, SqL K H a us → us[i]? = some x) ∧ ∀ ws, SqT K H b ws → ws[i]? = some y,
    fun i H => ∃ us ws : List V, SqL K H a us ∧ SqT K H b ws ∧ i ≤ us.length ∧ i ≤ ws.length ∧ (us.length = i ∨ ws.length = i)⟩
def zst (z TI TO i1 i2 a b : Addr) : Nat → Heap → Prop := fun i h => IsZip h z TI TO .none ∧ IsTupOf2 h TI (.ref i1) (.ref i2) ∧ (∃ x y, IsTupOf2 h TO x y) ∧ h.IsListIter i1 a i ∧ h.IsTupleIter i2 b i
theorem turn_mix {P : Program} {w : World} {K : PySem.W.Frag} {elts : List Expr} {kk : Nat} {tpos : Pos} {a b z TI TO i1 i2 : Addr} (S : ZipSep2 z TI TO i1 i2 [i1, a] [i2, b]) :
    Turn P w K (.Tuple elts kk tpos) (ItzM K a b) [z, TI, TO, i1, i2] z (zst z TI TO i1 i2 a b) := by
  have na : a ≠ i1 ∨ a = i1 := by by_cases h : a = i1; exact .inr h; exact .inl h
  have five : ∀ {c : Addr}, c ∈ [z, TI, TO, i1, i2] → c = z ∨ c = TI ∨ c = TO ∨ c = i1 ∨ c = i2 := fun {c} h => by simpa using h
  refine ⟨by simp, fun i h st c hc => ?_, fun i h h' st k => ?_, ?_, ?_, fun A i s Q E st h => wpAny_pyIter_zip st.1 h⟩
  · obtain ⟨hz, hTI, ⟨x, y, hTO⟩, ⟨o1, e1, _, d1⟩, ⟨o2, e2, _, d2⟩⟩ := st
    rcases five hc with rfl | rfl | rfl | rfl | rfl
    · exact ⟨_, hz, fun v q => nomatch q⟩
    · exact ⟨_, hTI, fun v q => nomatch q⟩
    · exact ⟨_, hTO, fun v q => nomatch q⟩
    · exact ⟨o1, e1, fun v q => by rw [d1] at q; cases q⟩
    · exact ⟨o2, e2, fun v q => by rw [d2] at q; cases q⟩
  · obtain ⟨hz, hTI, ⟨x, y, hTO⟩, h1, h2⟩ := st
    exact ⟨k z (by simp) _ hz, k TI (by simp) _ hTI, ⟨x, y, k TO (by simp) _ hTO⟩, h1.at fun o q => k i1 (by simp) o q, h2.at fun o q => k i2 (by simp) o q⟩
  · intro X hP hw hK hc i pins s σ H E I hf st hg
    subst hP hw hK
    obtain ⟨hz, hTI, ⟨x0, y0, hTO⟩, h1, h2⟩ := st
    obtain ⟨us, ws, x, y, qa, qb, hx, hy⟩ := hg
    obtain ⟨its, rv, p1, _⟩ := I.list qa
    obtain ⟨jts, rw', p2, _⟩ := I.tuple qb
    obtain ⟨u, hu, ru⟩ := rv.get hx
    obtain ⟨v, hv, rv2⟩ := rw'.get hy
    have ne1 : a ≠ i1 := fun e => by
      have q := p1.isList
      rw [e] at q
      obtain ⟨o, ho, hc', _⟩ := h1
      obtain ⟨o', ho', hc2, _⟩ := q
      rw [ho] at ho'
      cases ho'
      rw [hc'] at hc2
      simp at hc2
    have ne2 : b ≠ i2 := fun e => by
      have q : s.heap.IsTuple b jts.toArray := p2
      rw [e] at q
      obtain ⟨o, ho, hc', _⟩ := h2
      obtain ⟨o', ho', hc2, _⟩ := q
      rw [ho] at ho'
      cases ho'
      rw [hc'] at hc2
      simp at hc2
    have D1 := Draws.list (prog := X.prog) (w := X.w) (A := X.A.in1) (I.ok.hd hc) i1 a ne1 its.toArray
    have D2 := Draws.tuple (prog := X.prog) (w := X.w) (A := X.A.in1) (I.ok.hd hc) i2 b ne2 jts.toArray
    have lt1 : i < its.toArray.size := by
      have := (List.getElem?_eq_some_iff.mp hu).1
      simpa using this
    have lt2 : i < jts.toArray.size := by
      have := (List.getElem?_eq_some_iff.mp hv).1
      simpa using this
    refine wpAny_pyNext_zipD2_item S D1 D2 hz hTI hTO ⟨h1, p1.isList⟩ ⟨h2, p2⟩ lt1 lt2 fun x1 x2 h' tk y1 y2 b1 b2 d1 d2 b5 b6 hk => ?_
    have e1 : x1 = u := by
      have y1 : its[i]? = some x1 := by simpa using y1
      rw [hu] at y1
      exact (Option.some.inj y1).symm
    have e2 : x2 = v := by
      have y2 : jts[i]? = some x2 := by simpa using y2
      rw [hv] at y2
      exact (Option.some.inj y2).symm
    subst e1 e2
    have zlt : z < s.heap.objs.size := Heap.lt_size hz
    refine ⟨_, rfl, wpAny_letOwnedTupleGo_zip (s := { s with heap := h', toks := tk }) b1 fun h2' z2 sb => ?_⟩
    have keepz : ∀ c o, c ≠ z → h'.get? c = some o → h2'.get? c = some o := fun c o n q => (sb.2 _ n).trans q
    have hT2 := keepz _ _ (Nat.ne_of_gt zlt) b5
    have new : ObjOk X.prog X.w (upd H s.heap.objs.size (.tup [x, y])) h2' s.heap.objs.size (.tup [x, y]) := ⟨by show 2 ≤ sizeLine; decide, [x1, x2], .cons ru (.cons rv2 .nil), ⟨_, hT2, rfl, _, rfl⟩⟩
    have I1 : Inv X pins σ (upd H s.heap.objs.size (.tup [x, y])) { s with heap := h2', toks := tk } := I.turnedNew (ch := [z, TI, TO, i1, i2]) (fun c o hb q => by
      have hb : c ≠ z ∧ c ≠ TI ∧ c ≠ TO ∧ c ≠ i1 ∧ c ≠ i2 := by simpa using hb
      exact keepz _ _ hb.1 (hk c o hb.1 hb.2.2.1 hb.2.2.2.1 hb.2.2.2.2 q)) hf (Nat.le_refl _) new
    refine ⟨.ref s.heap.objs.size, _, I1, rfl, ⟨_, x, y, rfl, I.hok.fresh (Nat.le_refl _), rfl, fun l hl => by rw [I.list_inj hl qa]; exact hx, fun l hl => by rw [I.tuple_inj hl qb]; exact hy⟩, ⟨z2, keepz _ _ S.TIz (hk _ _ S.TIz S.TITO S.TIi1 S.TIi2 hTI), ⟨_, _, keepz _ _ S.TOz b2⟩, d1.1.at fun o q => keepz _ _ (Ne.symm S.zi1) q, d2.1.at fun o q => keepz _ _ (Ne.symm S.zi2) q⟩, fun c hcm => ?_⟩
    have hlt : c < s.heap.objs.size := by
      rcases five hcm with rfl | rfl | rfl | rfl | rfl
      · exact zlt
      · exact Heap.lt_size hTI
      · exact Heap.lt_size hTO
      · exact let ⟨_, q, _⟩ := h1; Heap.lt_size q
      · exact let ⟨_, q, _⟩ := h2; Heap.lt_size q
    rw [upd_ne (Nat.ne_of_lt hlt)]
    exact (hf c hcm).1
  · intro X hP hw hK hc i pins s σ H E I hf st hg
    subst hP hw hK
    obtain ⟨hz, hTI, ⟨x0, y0, hTO⟩, h1, h2⟩ := st
    obtain ⟨us, ws, qa, qb, l1, l2, hend⟩ := hg
    obtain ⟨its, rv, p1, _⟩ := I.list qa
    obtain ⟨jts, rw', p2, _⟩ := I.tuple qb
    have n1 := rv.length
    have n2 := rw'.length
    have ne1 : a ≠ i1 := fun e => by
      have q := p1.isList
      rw [e] at q
      obtain ⟨o, ho, hc', _⟩ := h1
      obtain ⟨o', ho', hc2, _⟩ := q
      rw [ho] at ho'
      cases ho'
      rw [hc'] at hc2
      simp at hc2
    have ne2 : b ≠ i2 := fun e => by
      have q : s.heap.IsTuple b jts.toArray := p2
      rw [e] at q
      obtain ⟨o, ho, hc', _⟩ := h2
      obtain ⟨o', ho', hc2, _⟩ := q
      rw [ho] at ho'
      cases ho'
      rw [hc'] at hc2
      simp at hc2
    have D1 := Draws.list (prog := X.prog) (w := X.w) (A := X.A.in1) (I.ok.hd hc) i1 a ne1 its.toArray
    have D2 := Draws.tuple (prog := X.prog) (w := X.w) (A := X.A.in1) (I.ok.hd hc) i2 b ne2 jts.toArray
    refine wpAny_pyNext_zipD2_end S D1 D2 hz hTI hTO ⟨h1, p1.isList⟩ ⟨h2, p2⟩ (by simp; omega) (by simp; omega) (by simp; omega) fun h' tk hk => ⟨rfl, I.turnedL (ch := [z, TI, TO, i1, i2]) (fun c o hb q => ?_) hf⟩
    have hb : c ≠ z ∧ c ≠ TI ∧ c ≠ TO ∧ c ≠ i1 ∧ c ≠ i2 := by simpa using hb
    exact hk c o hb.1 hb.2.2.1 hb.2.2.2.1 hb.2.2.2.2 q
def iZipM (K : PySem.W.Frag) (ta : TA) : TI := fun σ H R => ta σ H fun vs H1 => ∃ a b us ws, vs = [.ref a, .ref b] ∧ SqL K H1 a us ∧ SqT K H1 b ws ∧ R (ItzM K a b) H1
theorem pi_zipM {X : Cx} {e e2 : Expr} {ta : TA} {p pos tpos : Pos} {elts : List Expr} {kk : Nat} (hg : Gl X "zip") (hm : X.mg "zip" = none) (ha : PA X [e, e2] ta) (h1 : starEach [e, e2] X.env = (false, eval e X.env) :: starEach [e2] X.env := by rfl) (h2 : (backTo pos (starEach [e2] X.env)).any (·.1) = false := by rfl) :
    PI X (.Tuple elts kk tpos) (.Call (.Name "zip" p) [e, e2] [] pos) (iZipM X.K ta) := by
  refine ⟨fun pins s σ H R I h => Call_ (ld_blt I hg hm PyProof.Rows.boot_zip (PyProof.Rows.callWith_type1 (thn (ha.run pos pins s σ H _ I h) fun us s1 ⟨vs, H1, I1, r1, q1⟩ => ?_) h1 h2))⟩
  obtain ⟨a, b, xs, ys, rfl, qa, qb, q⟩ := q1
  cases r1 with
  | cons ra r1 =>
    cases r1 with
    | cons rb r1 =>
      cases r1
      cases ra
      cases rb
      obtain ⟨its, rv, p1, _⟩ := I1.list qa
      obtain ⟨jts, rw', p2, _⟩ := I1.tuple qb
      have la : a < s1.heap.objs.size := p1.lt
      have lb : b < s1.heap.objs.size := by
        obtain ⟨o, ho, _⟩ := id p2
        exact Heap.lt_size ho
      refine zip_begins2 (begins_list a its.toArray) (begins_tuple b jts.toArray) p1.isList p2 fun h' hz hTI hTO g1 g2 hsz hk => wpAny_pyIter_zip hz ?_
      refine ⟨_, _, _, _, H1, rfl, I1.kept (t' := s1.toks) hk, turn_mix (zip_sep2 (fp1 := [a]) (fp2 := [b]) (by simpa using la) (by simpa using lb)), ⟨hz, hTI, ⟨_, _, hTO⟩, ⟨_, g1, rfl, rfl⟩, ⟨_, g2, rfl, rfl⟩⟩, fun c hc => ?_, q⟩
      have hle : s1.heap.objs.size ≤ c := by
        have hc : c = s1.heap.objs.size + 4 ∨ c = s1.heap.objs.size + 2 ∨ c = s1.heap.objs.size + 3 ∨ c = s1.heap.objs.size ∨ c = s1.heap.objs.size + 1 := by simpa using hc
        rcases hc with rfl | rfl | rfl | rfl | rfl
        · exact Nat.le_add_right _ _
        · exact Nat.le_add_right _ _
        · exact Nat.le_add_right _ _
        · exact Nat.le_refl _
        · exact Nat.le_add_right _ _
      exact I1.fpOk hle (I1.hok.fresh hle)
def diZipM (pA : DA) : DI := fun ss n Q => pA ss n fun as n' => onD as fun ds => ∃ xs ys, ds = [.list xs, .tuple ys] ∧ canD ss (.list xs) ∧ canD ss (.tuple ys) ∧ Q (zipD xs ys) n'
section
variable {X : Cx} {a b : Expr} {tA : TA} {pA : DA} {pos : Pos}
theorem i_zipM {p0 tpos : Pos} {elts : List Expr} {kk : Nat} (hg : Gl X "zip") (hm : X.mg "zip" = none) (ha : PLA X [a, b] tA pA) (hs : starEach [a, b] X.env = (false, eval a X.env) :: starEach [b] X.env := by rfl) (hpl : (backTo pos (starEach [b] X.env)).any (·.1) = false := by rfl) :
    PLI X (.Tuple elts kk tpos) (.Call (.Name "zip" p0) [a, b] [] pos) (iZipM X.K tA) (diZipM pA) := ⟨pi_zipM hg hm ha.pa hs hpl, fun g H0 σ H ss n w R Q1 k h q => ha.lf g H0 σ H ss n w _ _ k h fun as n' vs H' h1 e1 k1 r1 => by
  obtain ⟨ds, e, xs, ys, rfl, c1, c2, h1⟩ := onD_some h1
  have r := datas_ok r1 e
  cases r with
  | cons ra r =>
    cases r with
    | cons rb r =>
      cases r
      have s1 := k1.strong ra c1
      have s2 := k1.strong rb c2
      cases s1 with
      | @lst a us _ ha hA =>
        cases s2 with
        | @tup b zs _ hb hB =>
          refine ⟨a, b, us, zs, rfl, SqL.of (hsub ha), SqT.of (hsub hb), q _ _ _ _ h1 e1 k1 fun H w' s hd hn => ?_⟩
          have ga : H a = some (.lst us) := (hw_some.mp (s _ _ ha)).2
          have gb : H b = some (.tup zs) := (hw_some.mp (s _ _ hb)).2
          have hl : (zipD xs ys).length = min us.length zs.length := by rw [hA.len, hB.len]; simp [zipD]
          refine ⟨fun i hi => ?_, fun i v H2 hy hi => ?_, us, zs, SqL.of ga, SqT.of gb, by omega, by omega, by omega⟩
          · have h1 : i < us.length := by omega
            have h2 : i < zs.length := by omega
            exact ⟨us, zs, us[i], zs[i], SqL.of ga, SqT.of gb, List.getElem?_eq_getElem h1, List.getElem?_eq_getElem h2⟩
          · obtain ⟨T, x, y, rfl, hT, rfl, f1, f2⟩ := hy
            exact zip_item (hA.same s) (hB.same s) hT (f1 _ (SqL.of ga)) (f2 _ (SqT.of gb))⟩
end
end Ev

namespace Ev
open PySem PySem.Spec PyProof.Rows L2
/-! ### the text of integers of many digits, and of tuples of them -/
mutual
inductive Big : PyData → Prop
  | int (i : Int) (h : i.natAbs < 10 ^ 4300) : Big (.int i)
  | tup {xs : List PyData} : BigA xs → Big (.tuple xs)
inductive BigA : List PyData → Prop
  | nil : BigA []
  | cons {x : PyData} {r : List PyData} : Big x → BigA r → BigA (x :: r)
end
theorem gives_big (a : Int) (t : Tok) (ha : a.natAbs < 10 ^ 4300) : GivesAt (fun s => s.heap.NoDigits) (Builtin.«int.__repr__» ⟨[.int a t], []⟩) (.str (toString a)) := fun prog w A R s hn hq => by
  unfold Builtin.«int.__repr__»
  change wpAny _ _ (Bind.bind (Builtin.overDigitLimit? a) _) _ _ s
  exact wpAny_bind (overDigitLimit_any hn (fun _ => wpAny_bind (wpAny_mkStr (wpAny_pure hq.2) (int_text_fits10 ha))) (fun z => absurd ha (Nat.not_lt.mpr z)))
section
variable {prog : Program} {w : World} {h₀ : Heap}
theorem reprK_int {bs : List Addr} {dp : Nat} {a : Int} (t : Tok) (hn : h₀.NoDigits) (ha : a.natAbs < 10 ^ 4300) : ReprK prog w bs h₀ dp (.int a t) (toString a) := fun m hm A g E s Q hg hc hu hk hQ => by
  rw [pyReprUnder_leaf (by omega) (fun b z => by cases z)]
  unfold pyRepr
  refine wpAny_bind (wpAny_pyReprObj_slot (by omega) (typeIs_int s a t) F.slot_int_repr.toG (call_givesAt F.slot_int_repr (typeIs_int s a t) F.entry_int_repr (F.args_int_repr_1 _) (gives_big a t ha) (hn.keeps hk) ?_))
  exact ⟨int_text_fits10 ha, _, _, rfl, wpAny_pure (hQ s.heap _ fun _ _ z => z)⟩
mutual
theorem reprK_big (hn : h₀.NoDigits) : ∀ (d : PyData) {v : Value} {as : List Addr}, Big d → Reads h₀ v d as → d.shown.length ≤ sizeLine → ∃ bs, ReadAtMost h₀ d.depth bs ∧ ReprK prog w bs h₀ d.depth v d.shown
  | .int i, _, _, hb, r, hz => by
    cases hb with
    | int _ hi =>
      cases r with
      | int _ t => exact ⟨[], (fun _ z => nomatch z), by simp only [PyData.shown]; exact reprK_int t hn hi⟩
  | .tuple xs, _, _, hb, r, hz => by
    cases hb with
    | tup hB =>
      have r0 := r
      cases r with
      | tuple h1 h2 h3 h4 =>
        rw [PyData.shown] at hz
        obtain ⟨bs, q1, q2⟩ := reprKA_big hn xs hB h4 (fun t ht => Nat.le_trans (tupleText_mem_le ht) hz)
        have q3 := not_mem_of_deeper r0 (n := PyData.depthAll xs) (bs := bs) (by rw [PyData.depth]; omega) q1
        refine ⟨_ :: bs, ReadAtMost.cons r0 (by rw [PyData.depth]; omega) q1, ?_⟩
        rw [PyData.shown, PyData.depth]
        exact ReprK.tuple h1 h2 h3 q3 q2
theorem reprKA_big (hn : h₀.NoDigits) : ∀ (ds : List PyData) {vs : List Value} {as : List Addr}, BigA ds → ReadsAll h₀ vs ds as → (∀ t ∈ PyData.shownAll ds, t.length ≤ sizeLine) →
    ∃ bs, ReadAtMost h₀ (PyData.depthAll ds) bs ∧ ReprAllK prog w bs h₀ (PyData.depthAll ds) vs (PyData.shownAll ds)
  | [], _, _, _, r, _ => by
    cases r
    exact ⟨[], (fun _ z => nomatch z), by simp only [PyData.shownAll]; exact .nil⟩
  | d :: ds, _, _, hb, r, hz => by
    cases hb with
    | cons hb1 hb2 =>
      cases r with
      | cons r1 r2 =>
        rw [PyData.shownAll] at hz
        obtain ⟨b1, p1, p2⟩ := reprK_big hn d hb1 r1 (hz _ List.mem_cons_self)
        obtain ⟨b2, p3, p4⟩ := reprKA_big hn ds hb2 r2 fun t ht => hz t (List.mem_cons_of_mem _ ht)
        refine ⟨b1 ++ b2, ?_, ?_⟩
        · rw [PyData.depthAll]
          exact (p1.mono (Nat.le_max_left _ _)).append (p3.mono (Nat.le_max_right _ _))
        · rw [PyData.depthAll, PyData.shownAll]
          exact .cons ((p2.more fun b z => List.mem_append_left _ z).level_le (Nat.le_max_left _ _)) (p4.more_le (fun b z => List.mem_append_right _ z) (Nat.le_max_right _ _))
end
end
def qReprB : List PyData → DP := fun ds Q => match ds with
  | [d] => (Big d ∧ d.depth ≤ 100 ∧ d.shown.length ≤ sizeLine) ∧ Q (.str d.shown)
  | _ => False
theorem qReprB_e {d : PyData} {Q : PyData → Prop} : qReprB [d] Q = ((Big d ∧ d.depth ≤ 100 ∧ d.shown.length ≤ sizeLine) ∧ Q (.str d.shown)) := rfl
def rReprB (K : PySem.W.Frag) : List V → Hp → VK → Prop := fun xs H Q => ∃ v d, xs = [v] ∧ Dp K H v d ∧ (Big d ∧ d.depth ≤ 100 ∧ d.shown.length ≤ sizeLine) ∧ Q (.str d.shown) H
section
variable {X : Cx}
theorem call_reprB (hn : X.base.NoDigits) (hg : X.A.guards = some []) (hu : X.A.units + 200 < cLine) : CallR X (.builtin "repr") (rReprB X.K) := by
  intro pins s σ H xs us Q I r h
  obtain ⟨v, d, rfl, hd, ⟨s1, s2, s3⟩, q⟩ := h
  obtain ⟨u, rfl, r2⟩ : ∃ u, us = [u] ∧ RelV v u := by
    cases r with
    | cons a b => cases b; exact ⟨_, rfl, a⟩
  have nd : s.heap.NoDigits := hn.keeps I.bk
  cases hd with
  | int i =>
    obtain ⟨t, rfl⟩ : ∃ t, u = Value.int i t := r2
    cases s1 with
    | int _ hi =>
      exact call_repr_slot (by omega) (typeIs_int s i t) F.slot_int_repr.toG (call_givesAt F.slot_int_repr (typeIs_int s i t) F.entry_int_repr (F.args_int_repr_1 _) (gives_big i t hi) nd ⟨int_text_fits10 hi, _, _, rfl, .str _, H, I.tok _, ⟨_, rfl⟩, q⟩)
  | @tup a xs ds h1 h2 =>
    obtain rfl : u = Value.ref a := r2
    obtain ⟨as, rd⟩ := Dp.reads I _ _ _ (.tup h1 h2) rfl
    have rd0 := rd
    cases s1 with
    | tup hB =>
      cases rd with
      | tuple e1 e2 e3 e4 =>
        rw [PyData.shown] at s3 q
        rw [PyData.depth] at s2
        obtain ⟨bs, q1, q2⟩ := reprKA_big (prog := X.prog) (w := X.w) nd ds hB e4 (fun t ht => Nat.le_trans (tupleText_mem_le ht) s3)
        have q3 := not_mem_of_deeper rd0 (n := PyData.depthAll ds) (bs := bs) (by rw [PyData.depth]; omega) q1
        exact call_repr_slot (by omega) ⟨_, e1, e2⟩ F.slot_tuple_repr (call_tuple_reprK e1 e2 e3 q3 q2 hg (fun b _ => Clear.nil b) (by show X.A.units + 1 + _ < cLine; omega) (fun _ _ z => z) (fun h' u tk hk => ⟨_, _, rfl, .str _, H, I.kept hk, ⟨_, rfl⟩, q⟩) s3)
  | _ => cases s1
theorem kb_reprB {K : PySem.W.Frag} (hK : X.K = K) (hn : X.base.NoDigits) (hg : X.A.guards = some []) (hu : X.A.units + 200 < cLine) : CB X (.builtin "repr") (rReprB K) qReprB := by
  subst hK
  exact ⟨call_reprB hn hg hu, fun hh H xs ds Q Q1 hd h hq q => by
    cases h with
    | nil => exact hq.elim
    | @cons v vs d ds h r =>
      cases r with
      | cons _ _ => exact hq.elim
      | nil => exact ⟨_, _, rfl, (h.same hw_sub).dp, hq.1, q _ _ _ hq.2 (Same.refl H) (.str _)⟩⟩
end
end Ev

namespace Ev
open PySem PySem.Spec PyProof.Rows L2
/-! ### data that repr shows, and how long their texts are at most -/
mutual
def nice : PyData → Bool
  | .none => true
  | .bool _ => true
  | .int i => decide (i.natAbs.log2 < 1920)
  | .str x => PyData.strOk x
  | .list xs => niceA xs
  | .tuple xs => niceA xs
  | .dict _ => false
def niceA : List PyData → Bool
  | [] => true
  | x :: r => nice x && niceA r
end
mutual
def wt : PyData → Nat
  | .none => 4
  | .bool _ => 5
  | .int _ => 1922
  | .str x => 10 * x.length + 2
  | .list xs => wtA xs + 3
  | .tuple xs => wtA xs + 3
  | .dict _ => 0
def wtA : List PyData → Nat
  | [] => 0
  | x :: r => wt x + 2 + wtA r
end
theorem niceA_iff : ∀ {xs : List PyData}, niceA xs = true ↔ ∀ x ∈ xs, nice x = true
  | [] => by simp [niceA]
  | x :: r => by simp [niceA, niceA_iff (xs := r)]
theorem niceA_app {xs ys : List PyData} (h1 : niceA xs = true) (h2 : niceA ys = true) : niceA (xs ++ ys) = true := niceA_iff.mpr fun x hx => (List.mem_append.mp hx).elim (niceA_iff.mp h1 x) (niceA_iff.mp h2 x)
theorem wtA_app : ∀ xs ys : List PyData, wtA (xs ++ ys) = wtA xs + wtA ys
  | [], ys => by simp [wtA]
  | x :: r, ys => by simp only [List.cons_append, wtA, wtA_app r ys]; omega
theorem wtA_le {c : Nat} : ∀ {xs : List PyData}, (∀ x ∈ xs, wt x ≤ c) → wtA xs ≤ (c + 2) * xs.length
  | [], _ => Nat.zero_le _
  | x :: r, h => by
    have h1 := wtA_le (xs := r) fun y hy => h y (List.mem_cons_of_mem _ hy)
    have h2 := h x List.mem_cons_self
    rw [wtA, List.length_cons, Nat.mul_succ]
    omega
theorem depthA_le {c : Nat} : ∀ {xs : List PyData}, (∀ x ∈ xs, x.depth ≤ c) → PyData.depthAll xs ≤ c
  | [], _ => by simp [PyData.depthAll]
  | x :: r, h => by
    simp only [PyData.depthAll]
    exact Nat.max_le.mpr ⟨h x List.mem_cons_self, depthA_le fun y hy => h y (List.mem_cons_of_mem _ hy)⟩
theorem join_le (sep : Str) : ∀ ts : List Str, (Str.join sep ts).length ≤ (ts.map fun t => t.length).sum + sep.length * ts.length
  | [] => Nat.zero_le _
  | [x] => by
    show x.length ≤ _
    simp
  | x :: y :: r => by
    have ih := join_le sep (y :: r)
    show (x ++ sep ++ Str.join sep (y :: r)).length ≤ _
    rw [strLen_append, strLen_append, List.map_cons, List.sum_cons, List.length_cons, Nat.mul_succ]
    omega
theorem tupleText_le (ts : List Str) : (tupleText ts).length ≤ (ts.map fun t => t.length).sum + 2 * ts.length + 3 := by
  unfold tupleText
  have h := join_le (Str.ofString ", ") ts
  have e : (Str.ofString ", ").length = 2 := by decide +kernel
  rw [e] at h
  rw [strLen_append, strLen_append]
  have e1 : (Str.ofString "(").length = 1 := by decide +kernel
  rw [e1]
  split
  · have e2 : (Str.ofString ",)").length = 2 := by decide +kernel
    rw [e2]; omega
  · have e2 : (Str.ofString ")").length = 1 := by decide +kernel
    rw [e2]; omega
theorem listText_le (ts : List Str) : (listText ts).length ≤ (ts.map fun t => t.length).sum + 2 * ts.length + 3 := by
  have key : ∀ (ts : List Str) (i : Nat) (acc : Str), (textFrom i acc ts).length ≤ acc.length + (ts.map fun t => t.length).sum + 2 * ts.length := fun ts => by
    induction ts with
    | nil => intro i acc; exact Nat.le_refl _
    | cons t r ih =>
      intro i acc
      unfold textFrom
      refine Nat.le_trans (ih _ _) ?_
      have e : (Str.ofString ", ").length = 2 := by decide +kernel
      rw [List.map_cons, List.sum_cons, List.length_cons, strLen_append]
      split
      · rw [strLen_append, e]; omega
      · rw [strLen_append]
        have e0 : (Str.ofString "").length = 0 := by decide +kernel
        rw [e0]; omega
  unfold listText
  have h := key ts 0 (Str.ofString "[")
  rw [strLen_append]
  have e1 : (Str.ofString "[").length = 1 := by decide +kernel
  have e2 : (Str.ofString "]").length = 1 := by decide +kernel
  rw [e1] at h
  rw [e2]; omega
mutual
theorem shown_le : ∀ d : PyData, nice d = true → d.shown.length ≤ wt d
  | .none, _ => by simp only [PyData.shown, wt]; decide +kernel
  | .bool b, _ => by cases b <;> simp only [PyData.shown, wt] <;> decide +kernel
  | .int i, h => by
    simp only [PyData.shown, wt]
    rw [PySem.ofString_length]
    have h : i.natAbs.log2 < 1920 := by simpa [nice] using h
    have := int_text_length_le (by decide) h
    omega
  | .str x, h => by
    simp only [PyData.shown, wt]
    refine PySem.StrLaws.reprText_len x fun c hc => ?_
    have h : PyData.strOk x = true := by simpa [nice] using h
    unfold PyData.strOk at h
    have h := (Array.all_eq_true_iff_forall_mem.mp h) c (Array.mem_toList_iff.mp hc)
    have h : c < 1114112 := by simpa using h
    omega
  | .list xs, h => by
    simp only [PyData.shown, wt]
    have h1 := listText_le (PyData.shownAll xs)
    have h2 := shownA_le xs (by simpa [nice] using h)
    omega
  | .tuple xs, h => by
    simp only [PyData.shown, wt]
    have h1 := tupleText_le (PyData.shownAll xs)
    have h2 := shownA_le xs (by simpa [nice] using h)
    omega
  | .dict _, h => by simp [nice] at h
theorem shownA_le : ∀ xs : List PyData, niceA xs = true → ((PyData.shownAll xs).map fun t => t.length).sum + 2 * (PyData.shownAll xs).length ≤ wtA xs
  | [], _ => by simp [PyData.shownAll, wtA]
  | x :: r, h => by
    have h : nice x = true ∧ niceA r = true := by simpa [niceA] using h
    have h1 := shown_le x h.1
    have h2 := shownA_le r h.2
    simp only [PyData.shownAll, List.map_cons, List.sum_cons, List.length_cons, wtA]
    omega
end
mutual
theorem nice_show : ∀ d : PyData, nice d = true → d.showable = true ∧ d.hasDict = false
  | .none, _ => ⟨rfl, rfl⟩
  | .bool _, _ => ⟨rfl, rfl⟩
  | .int i, h => ⟨by simpa [nice, PyData.showable] using h, rfl⟩
  | .str _, _ => ⟨rfl, rfl⟩
  | .list xs, h => by
    simp only [PyData.showable, PyData.hasDict]
    exact niceA_show xs (by simpa [nice] using h)
  | .tuple xs, h => by
    simp only [PyData.showable, PyData.hasDict]
    exact niceA_show xs (by simpa [nice] using h)
  | .dict _, h => by simp [nice] at h
theorem niceA_show : ∀ xs : List PyData, niceA xs = true → PyData.showableAll xs = true ∧ PyData.hasDictAll xs = false
  | [], _ => ⟨rfl, rfl⟩
  | x :: r, h => by
    have h : nice x = true ∧ niceA r = true := by simpa [niceA] using h
    have h1 := nice_show x h.1
    have h2 := niceA_show r h.2
    simp only [PyData.showableAll, PyData.hasDictAll, h1.1, h1.2, h2.1, h2.2]
    exact ⟨rfl, rfl⟩
end
theorem shows_of {d : PyData} (h : nice d = true) (hd : d.depth ≤ 100) (hw : wt d ≤ 1000000) : shows d :=
  ⟨(nice_show d h).1, (nice_show d h).2, hd, Nat.le_trans (shown_le d h) (Nat.le_trans hw (by decide))⟩
mutual
theorem nice_plain : ∀ d : PyData, nice d = true → PyData.plain d = true
  | .none, _ => rfl
  | .bool _, _ => rfl
  | .int _, _ => rfl
  | .str _, _ => rfl
  | .list xs, h => by
    simp only [PyData.plain]
    exact niceA_plain xs (by simpa [nice] using h)
  | .tuple xs, h => by
    simp only [PyData.plain]
    exact niceA_plain xs (by simpa [nice] using h)
  | .dict _, h => by simp [nice] at h
theorem niceA_plain : ∀ xs : List PyData, niceA xs = true → PyData.plainAll xs = true
  | [], _ => rfl
  | x :: r, h => by
    have h : nice x = true ∧ niceA r = true := by simpa [niceA] using h
    simp only [PyData.plainAll, nice_plain x h.1, niceA_plain r h.2, Bool.and_self]
end
theorem okD_nice {d : PyData} (h : nice d = true) (hd : d.depth ≤ 64) : okD d = true := by
  unfold okD
  rw [nice_plain d h, decide_eq_true hd]
  rfl
/-- the texts of the same value are the same -/
theorem eqv_refl_s (x : Str) : PyData.eqv (.str x) (.str x) = true := by rw [eqv_s]; exact decide_eq_true rfl
theorem nice_int {i : Int} (h : i.natAbs < 2 ^ 1900) : nice (.int i) = true := by
  simp only [nice]
  refine decide_eq_true ?_
  by_cases z : i.natAbs = 0
  · rw [z]
    decide
  · have h1 : i.natAbs.log2 < 1900 := (Nat.log2_lt z).mpr h
    omega
theorem nice_nat {n : Nat} (h : n ≤ 10 ^ 60) : nice (.int (n : Int)) = true := nice_int (by
  have e : ((n : Int)).natAbs = n := Int.natAbs_natCast n
  rw [e]
  have : (10 : Nat) ^ 60 < 2 ^ 200 := by decide
  have h2 : (2 : Nat) ^ 200 ≤ 2 ^ 1900 := Nat.pow_le_pow_right (by decide) (by decide)
  omega)
end Ev

namespace Ev
open PySem PySem.Spec PyProof.Rows L2
theorem if_no {p q : Prop} (h : q) : if false = true then p else q := h
theorem if_yes {p q : Prop} (h : p) : if true = true then p else q := h
theorem isOwn_d {x : PyData} : isOwn (.d x) = false := rfl
theorem isOwn_dk : isOwn .dk = false := rfl
theorem isOwn_un : isOwn .un = false := rfl
theorem noOwn_get {ss : List S} (h : noOwn ss = true) {i : Nat} {xs : List PyData} (e : ss[i]? = some (.own xs)) : False := by
  unfold noOwn at h
  rw [List.any_eq_true.mpr ⟨_, List.mem_of_getElem? e, rfl⟩] at h
  cases h
theorem okW_no {ss : List S} (h : noOwn ss = true) (vs : List Nat) : okW ss vs = true := List.all_eq_true.mpr fun i _ => by
  cases e : ss[i]? with
  | none => rfl
  | some s =>
    cases s with
    | own xs => exact (noOwn_get h e).elim
    | _ => rfl
theorem noOwn_iff {ss : List S} : noOwn ss = true ↔ ∀ s ∈ ss, isOwn s = false := by
  unfold noOwn
  rw [Bool.not_eq_true', List.any_eq_false]
  exact ⟨fun h s hs => by simpa using h s hs, fun h s hs => by simp [h s hs]⟩
theorem noOwn_drop {ss : List S} (h : noOwn ss = true) (i : Nat) : noOwn (ss.drop i) = true := noOwn_iff.mpr fun s hs => noOwn_iff.mp h s (List.mem_of_mem_drop hs)
section
variable {X : Cx} {K : PySem.W.Frag} {tg e a b c iter elt : Expr} {es ifs : List Expr} {t ta tb tc te : TE} {tt tu : TT} {tA : TA} {p pa pb pc pe : DE} {pt pu : DT} {pA : DA} {pos apos : Pos} {st : Stmt} {sts sts' : List Stmt} {ts tz : TS} {q r : DS}
/-! ### a comprehension's list kept as plain data -/
theorem lf_set {i : Nat} (h : Lf t p) : LfS (tAsg t (gName i)) (dSet i p) := fun g H0 σ H ss n w D DD k hp E => h g H0 σ H ss n w _ _ k hp fun d n' v H' h1 e1 k1 r1 =>
  E.nx _ _ _ _ _ (k1.put (k1.strong r1 h1.1)) (fun b o q => drp_same _ _ (hw_ed k.wdk e1 b o q)) h1.2
theorem lf_ofL {pl : DL} (h : LfL t pl) : Lf t (dOfL pl) := fun g H0 σ H ss n w Q Q1 k hp q => h g H0 σ H ss n w _ _ k hp fun xs n' a vs H' h1 e1 k1 f1 g1 r1 =>
  q _ _ _ _ h1 e1 k1 (.lst (hw_some.mpr ⟨k.hd.none f1, g1⟩) r1)
theorem s_setLcD {i : Nat} {y : Str} {py spos : Pos} {scope : Scope} {own : List (Str × Nat)} {wi : TI} {pi : DI} {gt : TG} {is : List Nat} {pg : DG} (hc : X.calm = true) (hN : X.N.Nodup) (hy : X.N[i]? = some y) (hyl : X.env.scope.names.lookup y = some .local)
    (hi : PLIc X tg iter wi pi) (ok : BlkOk X.N X.env.scope scope own)
    (hg : ∀ (s : Shared) (H : Hp) (C : Addr) (cl : List (Str × Addr)) (fp : List Addr), PLTg (X.blk s H scope (compEnvC scope cl C X.env) fp) tg gt is pg) (ht : ∀ (s : Shared) (H : Hp) (C : Addr) (cl : List (Str × Addr)) (fp : List Addr), PLTs (X.blk s H scope (compEnvC scope cl C X.env) fp) ifs tt pt)
    (he : ∀ (s : Shared) (H : Hp) (C : Addr) (cl : List (Str × Addr)) (fp : List Addr), PL (X.blk s H scope (compEnvC scope cl C X.env) fp) elt te pe) (hsw : swapsWith (.ListComp elt [⟨tg, iter, ifs, 0⟩] scope pos) (some (.Name y py)) spos.line X.env = pure true)
    (hv : ∀ i ∈ is, i ∈ own.map (·.2) := by decide) (hs : ∀ x, foldedSetIterable iter X.env x = pure x := by intro _; rfl) :
    PLS X (.Assign [.Name y py] (.ListComp elt [⟨tg, iter, ifs, 0⟩] scope pos) spos) (tAsg (tLc wi gt tt te (own.map (·.2))) (gName i)) (dSet i (dOfL (dLc pi pg pt pe (own.map (·.2))))) :=
  ⟨ps_setLc hc hN hy hyl hsw hi.pi ok (fun s H C cl fp => (hg s H C cl fp).pg) (fun s H C cl fp => (ht s H C cl fp).pt) (fun s H C cl fp => (he s H C cl fp).pe) hs,
    lf_set (lf_ofL (lf_lc hi.lf (hg X.s_0 X.H_0 0 [] []).lf (ht X.s_0 X.H_0 0 [] []).lf (he X.s_0 X.H_0 0 [] []).lf hv))⟩
theorem k_zipM {p0 tpos : Pos} {elts : List Expr} {kk : Nat} (hK : X.K = K) (hg : Gl X "zip") (hm : X.mg "zip" = none) (ha : PLA X [a, b] tA pA) (hs : starEach [a, b] X.env = (false, eval a X.env) :: starEach [b] X.env := by rfl) (hpl : (backTo pos (starEach [b] X.env)).any (·.1) = false := by rfl) :
    PLI X (.Tuple elts kk tpos) (.Call (.Name "zip" p0) [a, b] [] pos) (iZipM K tA) (diZipM pA) := by subst hK; exact i_zipM hg hm ha hs hpl
/-! ### a list of the def's own, from here on left as it is -/
def dFrz (i : Nat) (q : DS) : DS := fun DD ss n => ∃ xs, ss[i]? = some (.own xs) ∧ q DD (ss.set i (.d (.list xs))) n
theorem Ok.frz {g : Gd} {H0 H : Hp} {σ : L2.St} {ss : List S} {n : Nat} {w : Addr → Option Nat} (k : Ok g H0 σ H ss n w) {i : Nat} {xs : List PyData} (h : ss[i]? = some (.own xs)) : Ok g H0 σ H (ss.set i (.d (.list xs))) n (drp w g.h i) := by
  have hl := lt_of_get h
  obtain ⟨a, vs, h1, h2, h3, h4, h5⟩ := k.sl i _ h
  refine ⟨by rw [List.length_set, k.len], k.ed, k.deck, drp_ext k.ext, k.hx, fun b hb => ?_, fun j s hs => ?_⟩
  · obtain ⟨j, hj⟩ := Option.isSome_iff_exists.mp hb
    obtain ⟨z1, z2⟩ := drp_some hj
    rcases z2 with z2 | z2
    · exact .inl z2
    · rcases k.hid b (by rw [z1]; rfl) with e | ⟨f1, f2, j', ys, e3, e4, e5⟩
      · exact .inl e
      · have : j' = j := Option.some.inj (e3.symm.trans z1)
        subst this
        exact .inr ⟨f1, f2, j', ys, hj, by rw [List.getElem?_set_ne (Ne.symm z2)]; exact e4, e5⟩
  · by_cases e : i = j
    · subst e
      rw [List.getElem?_set_self hl] at hs
      cases hs
      refine ⟨_, h1, .lst (hw_some.mpr ⟨?_, h4⟩) (h5.same drp_same)⟩
      unfold drp
      rw [if_pos ⟨h3, h2⟩]
    · rw [List.getElem?_set_ne e] at hs
      have q := k.sl j s hs
      cases s with
      | d x => obtain ⟨v, h1, h2⟩ := q; exact ⟨v, h1, h2.same drp_same⟩
      | own ys => obtain ⟨b, us, e1, e2, e3, e4, e5⟩ := q; exact ⟨b, us, e1, drp_of e2 (Ne.symm e), e3, e4, e5.same drp_same⟩
      | dk => exact q
      | un => trivial
theorem s_frz (i : Nat) (h : PLS X st ts q) : PLS X st ts (dFrz i q) := ⟨h.ps, fun g H0 σ H ss n w D DD k hp E => by
  obtain ⟨xs, hx, hp⟩ := hp
  exact h.lf g H0 σ H _ n _ D DD (k.frz hx) hp (E.mono drp_same)⟩
/-- over a variable that holds data -/
def diVar (i : Nat) : DI := fun ss n Q => ∃ d, ss[i]? = some (.d d) ∧ isSeq d = true ∧ Q (itemsOf d) n
theorem k_var (i : Nat) {x : Str} {p1 : Pos} (hK : X.K = K) (ho : PL X (.Name x p1) (tVar i) (dVar i)) : PLI X tg (.Name x p1) (iSeq K (tVar i)) (diVar i) := by
  subst hK
  refine ⟨pi_seq ho.pe, fun g H0 σ H ss n w R Q1 k h q => ?_⟩
  obtain ⟨d, hd, hs, h⟩ := h
  obtain ⟨v, h1, h2⟩ := k.var hd
  refine ⟨v, h1, ?_⟩
  cases h2 with
  | @lst a vs ds ha hA => exact ⟨a, rfl, .inl ⟨⟨vs, SqL.of (hsub ha)⟩, q _ _ _ _ h (Ed.refl _ _) k (walks_list ha hA)⟩⟩
  | @tup a vs ds ha hA => exact ⟨a, rfl, .inr ⟨⟨vs, SqT.of (hsub ha)⟩, q _ _ _ _ h (Ed.refl _ _) k (walks_tup ha hA)⟩⟩
  | _ => cases hs
/-- a, b = e1, e2, the second a new list: the def's own -/
def dParL (i j : Nat) (p : DE) (q : DL) : DS := fun DD ss n => p ss n fun d n1 => q ss n1 fun ys n2 => i ≠ j ∧ j < ss.length ∧ canD ss d ∧ NLA ys = true ∧ DD.nx ((ss.set i (.d d)).set j (.own ys)) n2
theorem s_parL {i j : Nat} {x y : Str} {px py pt' : Pos} {kt k2 : Nat} {pt2 : Pos} {ql : DL} (hc : X.calm = true) (hN : X.N.Nodup) (hi : X.N[i]? = some x) (hj : X.N[j]? = some y) (hij : i ≠ j) (hx : List.lookup x X.env.scope.names = some .local) (hy : List.lookup y X.env.scope.names = some .local)
    (ha : PL X a ta pa) (hb : PLL X b tb ql) (hs : starEach [a, b] X.env = (false, eval a X.env) :: starEach [b] X.env := by rfl) (hs2 : starEach [b] X.env = (false, eval b X.env) :: starEach [] X.env := by rfl)
    (hsw : swappedStores [.Tuple [.Name x px, .Name y py] kt pt'] (.Tuple [a, b] k2 pt2) X.env = pure (some [x, y]) := by rfl) (hsole : swapsWithSole [.Tuple [.Name x px, .Name y py] kt pt'] (.Tuple [a, b] k2 pt2) pos.line X.env = pure false := by rfl) :
    PLS X (.Assign [.Tuple [.Name x px, .Name y py] kt pt'] (.Tuple [a, b] k2 pt2) pos) (tPar i j (tCons ta (tCons tb tNil))) (dParL i j pa ql) :=
  ⟨ps_par hc hN hi hj hij hx hy (pa_cons ha.pe (pa_cons hb.pe pa_nil hs2) hs) hsw hsole, fun g H0 σ H ss n w D DD k h E => ha.lf g H0 σ H ss n w _ _ k h fun d n1 v H1 h1 e1 k1 r1 => hb.lf g H0 σ H1 ss n1 w _ _ k1 h1 fun ys n2 a us H2 h2 e2 k2 f2 g2 r2 => by
    obtain ⟨_, hl, c1, c2, h2⟩ := h2
    have s1 := k1.strong r1 c1
    have m1 := k1.put (i := i) s1
    have m2 := k2.put (i := i) (s1.same (hw_ed k1.wdk e2))
    obtain ⟨m3, s3⟩ := Ok.putNew m1 e2 m2 (i := j) (by rw [List.length_set]; exact hl) f2 g2 r2 (.inl c2)
    exact ⟨v, .ref a, rfl, E.nx _ _ _ _ _ m3 (fun b o q => s3 b o (drp_same _ _ (hw_ed k.wdk e1 b o q))) h2⟩⟩
/-- a, b = new list, new list / a new list first -/
def dParL1 (i j : Nat) (p : DL) (q : DE) : DS := fun DD ss n => p ss n fun ys n1 => q ss n1 fun d n2 => i ≠ j ∧ i < ss.length ∧ NLA ys = true ∧ NL d = true ∧ DD.nx ((ss.set i (.own ys)).set j (.d d)) n2
def qMax : List PyData → DP := fun ds Q => match ds with
  | [.int i, .int j] => Q (.int (if j > i then j else i))
  | _ => False
theorem qMax_i {i j : Int} {Q : PyData → Prop} : qMax [.int i, .int j] Q = Q (.int (if j > i then j else i)) := rfl
theorem b_max (hc : X.calm = true) : CB X (.builtin "max") (fun xs H Q => ∃ i j, xs = [V.int i, V.int j] ∧ Q (V.int (if j > i then j else i)) H) qMax := ⟨call_max2 hc, fun hh H xs ds Q Q1 hd h hq q => by
  cases h with
  | nil => exact hq.elim
  | cons h r =>
    cases r with
    | nil => cases h <;> exact hq.elim
    | cons h' r =>
      cases r with
      | cons _ _ => cases h <;> cases h' <;> exact hq.elim
      | nil =>
        cases h with
        | int i =>
          cases h' with
          | int j => exact ⟨i, j, rfl, q _ _ _ hq (Same.refl H) (.int _)⟩
          | _ => exact hq.elim
        | _ => cases h' <;> exact hq.elim⟩
/-! ### comprehensions over what is laid of Lean's lists -/
theorem lc_all {α : Type} {pi : DI} {pg : DG} {pt : DT} {pe : DE} {vs : List Nat} {ss : List S} {n : Nat} {Q : DLQ} (l : List α) (emb : α → PyData) (tst : α → Bool) (g : α → PyData) (n1 : Nat) (ho : okW ss vs = true) (hpi : ∀ R : List PyData → Nat → Prop, R (l.map emb) n1 → pi ss n R) (hl : l.length ≤ sizeLine)
    (he : ∀ a ∈ l, NL (g a) = true ∧ ∀ (R : DQ) (R' : Nat → Prop), (tst a = true → R (g a) n1) → (tst a = false → R' n1) → pg (emb a) (wipeS ss vs) n1 fun ss2 n2 => pt ss2 n2 fun b n3 => if b = true then pe ss2 n3 R else R' n3) (hq : Q ((l.filter tst).map g) n1) : dLc pi pg pt pe vs ss n Q := by
  refine ⟨ho, hpi _ ⟨fun i acc n' => acc = ((l.take i).filter tst).map g ∧ n' = n1, ⟨by simp, rfl⟩, fun i d acc n' hd ⟨e1, e2⟩ => ?_, fun acc n' ⟨e1, e2⟩ => ?_⟩⟩
  · subst e1 e2
    rw [List.getElem?_map] at hd
    obtain ⟨a, ha, rfl⟩ := Option.map_eq_some_iff.mp hd
    have hi := (List.getElem?_eq_some_iff.mp ha).1
    have tk : (l.take (i + 1)).filter tst = (l.take i).filter tst ++ [a].filter tst := by rw [List.take_add_one, ha, List.filter_append] <;> rfl
    obtain ⟨h1, h2⟩ := he a (List.mem_of_getElem? ha)
    have hfl : (((l.take i).filter tst).map g).length < sizeLine := by
      rw [List.length_map]
      have := List.length_filter_le tst (l.take i)
      rw [List.length_take] at this
      omega
    refine h2 _ (fun n3 => _ ∧ n3 = n') (fun ht => ⟨hfl, h1, ?_, rfl⟩) (fun ht => ⟨?_, rfl⟩)
    · rw [tk, List.map_append, List.filter_cons, if_pos ht] <;> rfl
    · rw [tk, List.filter_cons, if_neg (by rw [ht]; decide), List.filter_nil, List.append_nil]
  · subst e1 e2
    rw [List.length_map, List.take_length]
    exact hq
/-- each by a function -/
theorem lc_mapA {α : Type} {pi : DI} {pe : DE} {vs : List Nat} {ss : List S} {n : Nat} {Q : DLQ} {j : Nat} (l : List α) (emb : α → PyData) (g : α → PyData) (n1 : Nat) (ho : okW ss vs = true) (hpi : ∀ R : List PyData → Nat → Prop, R (l.map emb) n1 → pi ss n R) (hl : l.length ≤ sizeLine)
    (he : ∀ a ∈ l, NL (g a) = true ∧ ∀ R : DQ, R (g a) n1 → pe ((wipeS ss vs).set j (.d (emb a))) n1 R) (hq : Q (l.map g) n1) : dLc pi (dgName j) dYes pe vs ss n Q :=
  lc_all l emb (fun _ => true) g n1 ho hpi hl (fun a ha => ⟨(he a ha).1, fun R R' h1 _ => (he a ha).2 R (h1 rfl)⟩) (by rw [List.filter_eq_self.mpr fun _ _ => rfl]; exact hq)
/-- pairs taken apart -/
theorem lc_mapB {α : Type} {pi : DI} {pe : DE} {vs : List Nat} {ss : List S} {n : Nat} {Q : DLQ} {i j : Nat} (l : List α) (e1 e2 : α → PyData) (g : α → PyData) (n1 : Nat) (ho : okW ss vs = true) (hpi : ∀ R : List PyData → Nat → Prop, R (l.map fun a => .tuple [e1 a, e2 a]) n1 → pi ss n R) (hl : l.length ≤ sizeLine)
    (he : ∀ a ∈ l, NL (g a) = true ∧ ∀ R : DQ, R (g a) n1 → pe (((wipeS ss vs).set i (.d (e1 a))).set j (.d (e2 a))) n1 R) (hq : Q (l.map g) n1) : dLc pi (dgTup 2 (dgCons (dgName i) (dgCons (dgName j) dgNil))) dYes pe vs ss n Q :=
  lc_all l (fun a => .tuple [e1 a, e2 a]) (fun _ => true) g n1 ho hpi hl (fun a ha => ⟨(he a ha).1, fun R R' h1 _ => ⟨_, rfl, rfl, rfl, (he a ha).2 R (h1 rfl)⟩⟩) (by rw [List.filter_eq_self.mpr fun _ _ => rfl]; exact hq)
end
end Ev
namespace Ev
open PySem PySem.Spec PyProof.Rows L2
/-- a constant of the module -/
theorem l_globE {X : Cx} {x : Str} {i : Int} {pos : Pos} (hg : Gl X x) (hm : ∃ t, X.mg x = some (.int i t)) (hd : (x == ("__debug__" : Str)) = false := by decide) : PL X (.Name x pos) (tC (.int i)) (dC (.int i)) := by
  obtain ⟨t, hm⟩ := hm
  exact ⟨pe_glob hg hm ⟨_, rfl⟩ hd, lf_c fun _ => .int i⟩
end Ev

namespace Ev
open PySem PySem.Spec PyProof.Rows L2
/-! ### a tuple of texts that the module holds -/
def ConT (K : PySem.W.Frag) (mg : Str → Option Value) (x : Str) (zs : List Str) (c : Addr) : Prop :=
  mg x = some (.ref c) ∧ ∃ (o : Obj) (its : Array Value) (n : Nat), K.lookup c = some o ∧ o.cls = .type "tuple" ∧ o.data = .seq its n ∧ its.size ≤ sizeLine ∧ Vals (zs.map V.str) its.toList
theorem strs_q {Hv : Hp} : ∀ zs : List Str, DqA Hv (zs.map V.str) (zs.map PyData.str)
  | [] => .nil
  | z :: r => .cons (.str z) (strs_q r)
def diZipC (zs : List Str) (p : DE) : DI := fun ss n Q => p ss n fun d n' => ∃ xs, d = .tuple xs ∧ canD ss (.tuple xs) ∧ Q (zipD xs (zs.map PyData.str)) n'
section
variable {X : Cx} {a b : Expr} {ta : TE} {pa : DE} {tA : TA} {pA : DA} {pos : Pos}
/-- over zip(a tuple, a tuple of the module) -/
theorem i_zipC {p0 tpos px : Pos} {elts : List Expr} {kk : Nat} {x : Str} {c : Addr} {zs : List Str} (hg : Gl X "zip") (hm : X.mg "zip" = none) (ha : PL X a ta pa) (hgx : Gl X x) (hc : ConT X.K X.mg x zs c) (hd : (x == ("__debug__" : Str)) = false := by decide)
    (hs : starEach [a, .Name x px] X.env = (false, eval a X.env) :: starEach [.Name x px] X.env := by rfl) (hs2 : starEach [.Name x px] X.env = (false, eval (.Name x px) X.env) :: starEach [] X.env := by rfl) (hpl : (backTo pos (starEach [.Name x px] X.env)).any (·.1) = false := by rfl) :
    PLI X (.Tuple elts kk tpos) (.Call (.Name "zip" p0) [a, .Name x px] [] pos) (RZ.iZipA X.K (tCons ta (tCons (tC (.ref c)) tNil))) (diZipC zs pa) := ⟨RZ.pi_zipA hg hm (pa_cons ha.pe (pa_cons (pe_glob hgx hc.1 rfl hd) pa_nil hs2) hs) hs hpl, fun g H0 σ H ss n w R Q1 k h q => ha.lf g H0 σ H ss n w _ _ k h fun d n' v H' h1 e1 k1 r1 => by
  obtain ⟨xs, rfl, c1, h1⟩ := h1
  have s1 := k1.strong r1 c1
  cases s1 with
  | @tup a us _ ha hA =>
    have qc : ∀ H : Hp, SqT X.K H c (zs.map V.str) := fun _ => .inr hc.2
    refine ⟨a, c, us, zs.map V.str, rfl, .inr ⟨SqT.of (hsub ha), qc _, q _ _ _ _ h1 e1 k1 fun H w' s hd hn => ?_⟩⟩
    have ga : H a = some (.tup us) := (hw_some.mp (s _ _ ha)).2
    have hl : (zipD xs (zs.map PyData.str)).length = min us.length (zs.map V.str).length := by rw [hA.len]; simp [zipD]
    refine ⟨fun i hi => ?_, fun i v H2 hy hi => ?_, us, zs.map V.str, SqT.of ga, qc _, by omega⟩
    · have h1 : i < us.length := by omega
      have h2 : i < (zs.map V.str).length := by omega
      exact ⟨us, zs.map V.str, us[i], (zs.map V.str)[i], SqT.of ga, qc _, List.getElem?_eq_getElem h1, List.getElem?_eq_getElem h2⟩
    · obtain ⟨T, x, y, rfl, hT, rfl, f1, f2⟩ := hy
      exact zip_item (hA.same s) (strs_q zs) hT (f1 _ (SqT.of ga)) (f2 _ (qc _))⟩
theorem k_zipC {K : PySem.W.Frag} (hK : X.K = K) {p0 tpos px : Pos} {elts : List Expr} {kk : Nat} {x : Str} {c : Addr} {zs : List Str} (hg : Gl X "zip") (hm : X.mg "zip" = none) (ha : PL X a ta pa) (hgx : Gl X x) (hc : ConT K X.mg x zs c) (hd : (x == ("__debug__" : Str)) = false := by decide)
    (hs : starEach [a, .Name x px] X.env = (false, eval a X.env) :: starEach [.Name x px] X.env := by rfl) (hs2 : starEach [.Name x px] X.env = (false, eval (.Name x px) X.env) :: starEach [] X.env := by rfl) (hpl : (backTo pos (starEach [.Name x px] X.env)).any (·.1) = false := by rfl) :
    PLI X (.Tuple elts kk tpos) (.Call (.Name "zip" p0) [a, .Name x px] [] pos) (RZ.iZipA K (tCons ta (tCons (tC (.ref c)) tNil))) (diZipC zs pa) := by subst hK; exact i_zipC hg hm ha hgx hc hd hs hs2 hpl
end
/-! ### str(an int) -/
def qStrOf : List PyData → DP := fun ds Q => match ds with
  | [.int i] => i.natAbs.log2 < 1920 ∧ Q (.str (toString i))
  | _ => False
theorem b_str {X : Cx} : CB X (.type "str") (fun xs H Q => ∃ i : Int, xs = [V.int i] ∧ i.natAbs.log2 < 1920 ∧ Q (V.str (toString i)) H) qStrOf := ⟨call_str_int, fun hh H xs ds Q Q1 hd h hq q => by
  cases h with
  | nil => exact hq.elim
  | cons h r =>
    cases r with
    | cons _ _ => cases h <;> exact hq.elim
    | nil =>
      cases h with
      | int i => exact ⟨i, rfl, hq.1, q _ _ _ hq.2 (Same.refl H) (.str _)⟩
      | _ => exact hq.elim⟩
theorem qStr_i {i : Int} {Q : PyData → Prop} : qStrOf [.int i] Q = (i.natAbs.log2 < 1920 ∧ Q (.str (toString i))) := rfl
/-! ### zip of a tuple and a text -/
def ItzS (K : PySem.W.Frag) (a : Addr) (z : Str) : It :=
  ⟨fun i H => ∃ (us : List V) (u : V), SqT K H a us ∧ us[i]? = some u ∧ i < z.cps.size,
    fun i H v H' => ∃ T u c, v = .ref T ∧ H T = none ∧ H' = upd H T (.tup [u, .str ⟨#[c]⟩]) ∧ z.cps[i]? = some c ∧ ∀ us, SqT K H a us → us[i]? = some u,
    fun i H => ∃ us : List V, SqT K H a us ∧ i ≤ us.length ∧ i ≤ z.cps.size ∧ (us.length = i ∨ z.cps.size = i)⟩
def zstS (z TI TO i1 i2 a : Addr) (x : Str) (t : Tok) : Nat → Heap → Prop := fun i h => IsZip h z TI TO .none ∧ IsTupOf2 h TI (.ref i1) (.ref i2) ∧ (∃ x y, IsTupOf2 h TO x y) ∧ h.IsTupleIter i1 a i ∧ h.IsStrIter i2 (strIterType x) x t i
theorem turn_zipS {P : Program} {w : World} {K : PySem.W.Frag} {elts : List Expr} {kk : Nat} {tpos : Pos} {a z TI TO i1 i2 : Addr} {x : Str} {t : Tok} (S : ZipSep2 z TI TO i1 i2 [i1, a] [i2]) :
    Turn P w K (.Tuple elts kk tpos) (ItzS K a x) [z, TI, TO, i1, i2] z (zstS z TI TO i1 i2 a x t) := by
  have five : ∀ {c : Addr}, c ∈ [z, TI, TO, i1, i2] → c = z ∨ c = TI ∨ c = TO ∨ c = i1 ∨ c = i2 := fun {c} h => by simpa using h
  refine ⟨by simp, fun i h st c hc => ?_, fun i h h' st k => ?_, ?_, ?_, fun A i s Q E st h => wpAny_pyIter_zip st.1 h⟩
  · obtain ⟨hz, hTI, ⟨x, y, hTO⟩, ⟨o1, e1, _, d1⟩, ⟨o2, e2, _, d2⟩⟩ := st
    rcases five hc with rfl | rfl | rfl | rfl | rfl
    · exact ⟨_, hz, fun v q => nomatch q⟩
    · exact ⟨_, hTI, fun v q => nomatch q⟩
    · exact ⟨_, hTO, fun v q => nomatch q⟩
    · exact ⟨o1, e1, fun v q => by rw [d1] at q; cases q⟩
    · exact ⟨o2, e2, fun v q => by rw [d2] at q; cases q⟩
  · obtain ⟨hz, hTI, ⟨x, y, hTO⟩, h1, ⟨o2, e2, r2⟩⟩ := st
    exact ⟨k z (by simp) _ hz, k TI (by simp) _ hTI, ⟨x, y, k TO (by simp) _ hTO⟩, h1.at fun o q => k i1 (by simp) o q, ⟨o2, k i2 (by simp) _ e2, r2⟩⟩
  · intro X hP hw hK hc i pins s σ H E I hf st hg
    subst hP hw hK
    obtain ⟨hz, hTI, ⟨x0, y0, hTO⟩, h1, h2⟩ := st
    obtain ⟨us, u, qa, hx, hlt⟩ := hg
    obtain ⟨its, rv, p1, _⟩ := I.tuple qa
    obtain ⟨u', hu, ru⟩ := rv.get hx
    have ne1 : a ≠ i1 := fun e => by
      have q : s.heap.IsTuple a its.toArray := p1
      rw [e] at q
      obtain ⟨o, ho, hc', _⟩ := h1
      obtain ⟨o', ho', hc2, _⟩ := q
      rw [ho] at ho'
      cases ho'
      rw [hc'] at hc2
      simp at hc2
    have D1 := Draws.tuple (prog := X.prog) (w := X.w) (A := X.A.in1) (I.ok.hd hc) i1 a ne1 its.toArray
    have D2 := Draws.text (prog := X.prog) (w := X.w) (A := X.A.in1) (I.ok.hd hc) i2 x t
    have lt1 : i < its.toArray.size := by
      have := (List.getElem?_eq_some_iff.mp hu).1
      simpa using this
    refine wpAny_pyNext_zipD2_item S D1 D2 hz hTI hTO ⟨h1, p1⟩ h2 lt1 hlt fun x1 x2 h' tk y1 y2 b1 b2 d1 d2 b5 b6 hk => ?_
    have e1 : x1 = u' := by
      have y1 : its[i]? = some x1 := by simpa using y1
      rw [hu] at y1
      exact (Option.some.inj y1).symm
    obtain ⟨c, tc, hcx, rfl⟩ := y2
    subst e1
    have zlt : z < s.heap.objs.size := Heap.lt_size hz
    refine ⟨_, rfl, wpAny_letOwnedTupleGo_zip (s := { s with heap := h', toks := tk }) b1 fun h2' z2 sb => ?_⟩
    have keepz : ∀ c o, c ≠ z → h'.get? c = some o → h2'.get? c = some o := fun c o n q => (sb.2 _ n).trans q
    have hT2 := keepz _ _ (Nat.ne_of_gt zlt) b5
    have new : ObjOk X.prog X.w (upd H s.heap.objs.size (.tup [u, .str ⟨#[c]⟩])) h2' s.heap.objs.size (.tup [u, .str ⟨#[c]⟩]) := ⟨by show 2 ≤ sizeLine; decide, [x1, .str ⟨#[c]⟩ tc], .cons ru (.cons ⟨tc, rfl⟩ .nil), ⟨_, hT2, rfl, _, rfl⟩⟩
    have I1 : Inv X pins σ (upd H s.heap.objs.size (.tup [u, .str ⟨#[c]⟩])) { s with heap := h2', toks := tk } := I.turnedNew (ch := [z, TI, TO, i1, i2]) (fun c o hb q => by
      have hb : c ≠ z ∧ c ≠ TI ∧ c ≠ TO ∧ c ≠ i1 ∧ c ≠ i2 := by simpa using hb
      exact keepz _ _ hb.1 (hk c o hb.1 hb.2.2.1 hb.2.2.2.1 hb.2.2.2.2 q)) hf (Nat.le_refl _) new
    refine ⟨.ref s.heap.objs.size, _, I1, rfl, ⟨_, u, c, rfl, I.hok.fresh (Nat.le_refl _), rfl, hcx, fun l hl => by rw [I.tuple_inj hl qa]; exact hx⟩, ⟨z2, keepz _ _ S.TIz (hk _ _ S.TIz S.TITO S.TIi1 S.TIi2 hTI), ⟨_, _, keepz _ _ S.TOz b2⟩, d1.1.at fun o q => keepz _ _ (fun e => S.zf1 (by rw [e]; simp)) q, ?_⟩, fun c hcm => ?_⟩
    · obtain ⟨o2, e2, r2⟩ := d2
      exact ⟨o2, keepz _ _ (fun e => S.zf2 (by rw [e]; simp)) e2, r2⟩
    have hlt : c < s.heap.objs.size := by
      rcases five hcm with rfl | rfl | rfl | rfl | rfl
      · exact zlt
      · exact Heap.lt_size hTI
      · exact Heap.lt_size hTO
      · exact let ⟨_, q, _⟩ := h1; Heap.lt_size q
      · exact let ⟨_, q, _⟩ := h2; Heap.lt_size q
    rw [upd_ne (Nat.ne_of_lt hlt)]
    exact (hf c hcm).1
  · intro X hP hw hK hc i pins s σ H E I hf st hg
    subst hP hw hK
    obtain ⟨hz, hTI, ⟨x0, y0, hTO⟩, h1, h2⟩ := st
    obtain ⟨us, qa, l1, l2, hend⟩ := hg
    obtain ⟨its, rv, p1, _⟩ := I.tuple qa
    have n1 := rv.length
    have ne1 : a ≠ i1 := fun e => by
      have q : s.heap.IsTuple a its.toArray := p1
      rw [e] at q
      obtain ⟨o, ho, hc', _⟩ := h1
      obtain ⟨o', ho', hc2, _⟩ := q
      rw [ho] at ho'
      cases ho'
      rw [hc'] at hc2
      simp at hc2
    have D1 := Draws.tuple (prog := X.prog) (w := X.w) (A := X.A.in1) (I.ok.hd hc) i1 a ne1 its.toArray
    have D2 := Draws.text (prog := X.prog) (w := X.w) (A := X.A.in1) (I.ok.hd hc) i2 x t
    refine wpAny_pyNext_zipD2_end S D1 D2 hz hTI hTO ⟨h1, p1⟩ h2 (by simp; omega) l2 (by simp; omega) fun h' tk hk => ⟨rfl, I.turnedL (ch := [z, TI, TO, i1, i2]) (fun c o hb q => ?_) hf⟩
    have hb : c ≠ z ∧ c ≠ TI ∧ c ≠ TO ∧ c ≠ i1 ∧ c ≠ i2 := by simpa using hb
    exact hk c o hb.1 hb.2.2.1 hb.2.2.2.1 hb.2.2.2.2 q
def iZipS (K : PySem.W.Frag) (ta : TA) : TI := fun σ H R => ta σ H fun vs H1 => ∃ a z us, vs = [.ref a, .str z] ∧ SqT K H1 a us ∧ R (ItzS K a z) H1
theorem pi_zipS {X : Cx} {e e2 : Expr} {ta : TA} {p pos tpos : Pos} {elts : List Expr} {kk : Nat} (hg : Gl X "zip") (hm : X.mg "zip" = none) (ha : PA X [e, e2] ta) (h1 : starEach [e, e2] X.env = (false, eval e X.env) :: starEach [e2] X.env := by rfl) (h2 : (backTo pos (starEach [e2] X.env)).any (·.1) = false := by rfl) :
    PI X (.Tuple elts kk tpos) (.Call (.Name "zip" p) [e, e2] [] pos) (iZipS X.K ta) := by
  refine ⟨fun pins s σ H R I h => Call_ (ld_blt I hg hm PyProof.Rows.boot_zip (PyProof.Rows.callWith_type1 (thn (ha.run pos pins s σ H _ I h) fun us s1 ⟨vs, H1, I1, r1, q1⟩ => ?_) h1 h2))⟩
  obtain ⟨a, z, xs, rfl, qa, q⟩ := q1
  cases r1 with
  | cons ra r1 =>
    cases r1 with
    | cons rb r1 =>
      cases r1
      cases ra
      obtain ⟨tz, rfl⟩ := rb
      obtain ⟨its, rv, p1, _⟩ := I1.tuple qa
      have la : a < s1.heap.objs.size := by
        obtain ⟨o, ho, _⟩ := id p1
        exact Heap.lt_size ho
      refine zip_begins2 (begins_tuple a its.toArray) (begins_text z tz) p1 trivial fun h' hz hTI hTO g1 g2 hsz hk => wpAny_pyIter_zip hz ?_
      refine ⟨_, _, _, _, H1, rfl, I1.kept (t' := s1.toks) hk, turn_zipS (zip_sep2 (fp1 := [a]) (fp2 := []) (by simpa using la) (by simp)), ⟨hz, hTI, ⟨_, _, hTO⟩, ⟨_, g1, rfl, rfl⟩, ⟨_, g2, rfl, rfl⟩⟩, fun c hc => ?_, q⟩
      have hle : s1.heap.objs.size ≤ c := by
        have hc : c = s1.heap.objs.size + 4 ∨ c = s1.heap.objs.size + 2 ∨ c = s1.heap.objs.size + 3 ∨ c = s1.heap.objs.size ∨ c = s1.heap.objs.size + 1 := by simpa using hc
        rcases hc with rfl | rfl | rfl | rfl | rfl
        · exact Nat.le_add_right _ _
        · exact Nat.le_add_right _ _
        · exact Nat.le_add_right _ _
        · exact Nat.le_refl _
        · exact Nat.le_add_right _ _
      exact I1.fpOk hle (I1.hok.fresh hle)
def diZipS (pA : DA) : DI := fun ss n Q => pA ss n fun as n' => onD as fun ds => ∃ xs z, ds = [.tuple xs, .str z] ∧ canD ss (.tuple xs) ∧ Q (zipD xs (charsD z)) n'
section
variable {X : Cx} {a b : Expr} {tA : TA} {pA : DA} {pos : Pos}
theorem i_zipS {p0 tpos : Pos} {elts : List Expr} {kk : Nat} (hg : Gl X "zip") (hm : X.mg "zip" = none) (ha : PLA X [a, b] tA pA) (hs : starEach [a, b] X.env = (false, eval a X.env) :: starEach [b] X.env := by rfl) (hpl : (backTo pos (starEach [b] X.env)).any (·.1) = false := by rfl) :
    PLI X (.Tuple elts kk tpos) (.Call (.Name "zip" p0) [a, b] [] pos) (iZipS X.K tA) (diZipS pA) := ⟨pi_zipS hg hm ha.pa hs hpl, fun g H0 σ H ss n w R Q1 k h q => ha.lf g H0 σ H ss n w _ _ k h fun as n' vs H' h1 e1 k1 r1 => by
  obtain ⟨ds, e, xs, z, rfl, c1, h1⟩ := onD_some h1
  have r := datas_ok r1 e
  cases r with
  | cons ra r =>
    cases r with
    | cons rb r =>
      cases r
      have s1 := k1.strong ra c1
      cases rb
      cases s1 with
      | @tup a us _ ha hA =>
        refine ⟨a, z, us, rfl, SqT.of (hsub ha), q _ _ _ _ h1 e1 k1 fun H w' s hd hn => ?_⟩
        have ga : H a = some (.tup us) := (hw_some.mp (s _ _ ha)).2
        have lc : (charsD z).length = z.cps.size := by simp [charsD]
        have hl : (zipD xs (charsD z)).length = min us.length z.cps.size := by rw [hA.len, ← lc]; simp [zipD]
        refine ⟨fun i hi => ?_, fun i v H2 hy hi => ?_, us, SqT.of ga, by omega, by omega, by omega⟩
        · have h1 : i < us.length := by omega
          exact ⟨us, us[i], SqT.of ga, List.getElem?_eq_getElem h1, by omega⟩
        · obtain ⟨T, x, c, rfl, hT, rfl, f1, f2⟩ := hy
          have hch : ∀ l : List Nat, ∀ Hv : Hp, DqA Hv (l.map fun c => V.str ⟨#[c]⟩) (l.map fun c => PyData.str ⟨#[c]⟩) := fun l Hv => by
            induction l with
            | nil => exact .nil
            | cons d r ih => exact .cons (.str _) ih
          refine zip_item (vs := us) (us := z.cps.toList.map fun c => V.str ⟨#[c]⟩) (hA.same s) (hch _ _) hT (f2 _ (SqT.of ga)) ?_
          rw [List.getElem?_map]
          have : z.cps.toList[i]? = some c := by simpa using f1
          rw [this]
          rfl⟩
theorem k_zipS {K : PySem.W.Frag} (hK : X.K = K) {p0 tpos : Pos} {elts : List Expr} {kk : Nat} (hg : Gl X "zip") (hm : X.mg "zip" = none) (ha : PLA X [a, b] tA pA) (hs : starEach [a, b] X.env = (false, eval a X.env) :: starEach [b] X.env := by rfl) (hpl : (backTo pos (starEach [b] X.env)).any (·.1) = false := by rfl) :
    PLI X (.Tuple elts kk tpos) (.Call (.Name "zip" p0) [a, b] [] pos) (iZipS K tA) (diZipS pA) := by subst hK; exact i_zipS hg hm ha hs hpl
end
end Ev

namespace Law
open PySem PySem.Spec PyProof.Rows L2 Ev
def top (i : Nat) : Stmt := PySem.Challenge.pw_everycount_k63_texts_of_programs.main.body.getD i (.Pass ⟨0, 0, 0, 0⟩)
abbrev s_program_text : Stmt := top 2
abbrev N_program_text : List Str := ["program"]
abbrev P_program_text : List Str := ["program"]
theorem sc_program_text : FnScope N_program_text P_program_text (defScope s_program_text) := ⟨rfl, rfl, rfl, by decide +kernel, rfl, by decide +kernel, by decide +kernel⟩
abbrev s_parts_text : Stmt := top 3
abbrev N_parts_text : List Str := ["parts", "part"]
abbrev P_parts_text : List Str := ["parts"]
theorem sc_parts_text : FnScope N_parts_text P_parts_text (defScope s_parts_text) := ⟨rfl, rfl, rfl, by decide +kernel, rfl, by decide +kernel, by decide +kernel⟩
abbrev s_part_told : Stmt := top 4
abbrev N_part_told : List Str := ["part"]
abbrev P_part_told : List Str := ["part"]
theorem sc_part_told : FnScope N_part_told P_part_told (defScope s_part_told) := ⟨rfl, rfl, rfl, by decide +kernel, rfl, by decide +kernel, by decide +kernel⟩
abbrev s_form_text : Stmt := top 5
abbrev N_form_text : List Str := ["form", "terms", "factor", "count"]
abbrev P_form_text : List Str := ["form"]
theorem sc_form_text : FnScope N_form_text P_form_text (defScope s_form_text) := ⟨rfl, rfl, rfl, by decide +kernel, rfl, by decide +kernel, by decide +kernel⟩
abbrev s_term_text : Stmt := top 6
abbrev N_term_text : List Str := ["factor", "count"]
abbrev P_term_text : List Str := ["factor", "count"]
theorem sc_term_text : FnScope N_term_text P_term_text (defScope s_term_text) := ⟨rfl, rfl, rfl, by decide +kernel, rfl, by decide +kernel, by decide +kernel⟩
abbrev s__law_deck : Stmt := top 8
abbrev N__law_deck : List Str := ["_law_script"]
abbrev P__law_deck : List Str := ["_law_script"]
theorem sc__law_deck : FnScope N__law_deck P__law_deck (defScope s__law_deck) := ⟨rfl, rfl, rfl, by decide +kernel, rfl, by decide +kernel, by decide +kernel⟩
abbrev s__law_draw : Stmt := top 9
abbrev N__law_draw : List Str := ["_law_deck_here", "_law_many", "_law_found", "_law_cell", "_law_mixed"]
abbrev P__law_draw : List Str := ["_law_deck_here", "_law_many"]
theorem sc__law_draw : FnScope N__law_draw P__law_draw (defScope s__law_draw) := ⟨rfl, rfl, rfl, by decide +kernel, rfl, by decide +kernel, by decide +kernel⟩
abbrev s__law_one : Stmt := top 10
abbrev N__law_one : List Str := ["_law_deck_here", "_law_items"]
abbrev P__law_one : List Str := ["_law_deck_here", "_law_items"]
theorem sc__law_one : FnScope N__law_one P__law_one (defScope s__law_one) := ⟨rfl, rfl, rfl, by decide +kernel, rfl, by decide +kernel, by decide +kernel⟩
abbrev s__law_word : Stmt := top 11
abbrev N__law_word : List Str := ["_law_deck_here", "_law_most", "_law_some", "_law_turn"]
abbrev P__law_word : List Str := ["_law_deck_here", "_law_most"]
theorem sc__law_word : FnScope N__law_word P__law_word (defScope s__law_word) := ⟨rfl, rfl, rfl, by decide +kernel, rfl, by decide +kernel, by decide +kernel⟩
abbrev s__law_form : Stmt := top 12
abbrev N__law_form : List Str := ["_law_deck_here", "_law_many", "_law_found", "_law_some", "_law_turn"]
abbrev P__law_form : List Str := ["_law_deck_here", "_law_many"]
theorem sc__law_form : FnScope N__law_form P__law_form (defScope s__law_form) := ⟨rfl, rfl, rfl, by decide +kernel, rfl, by decide +kernel, by decide +kernel⟩
abbrev s__law_part : Stmt := top 13
abbrev N__law_part : List Str := ["_law_deck_here", "_law_many", "_law_deep", "_law_is_free", "_law_way", "_law_shape", "_law_inner", "_law_turn"]
abbrev P__law_part : List Str := ["_law_deck_here", "_law_many", "_law_deep", "_law_is_free"]
theorem sc__law_part : FnScope N__law_part P__law_part (defScope s__law_part) := ⟨rfl, rfl, rfl, by decide +kernel, rfl, by decide +kernel, by decide +kernel⟩
abbrev s__law_pieces : Stmt := top 14
abbrev N__law_pieces : List Str := ["_law_parts", "_law_found", "_law_one_here", "_law_some", "_law_shape"]
abbrev P__law_pieces : List Str := ["_law_parts"]
theorem sc__law_pieces : FnScope N__law_pieces P__law_pieces (defScope s__law_pieces) := ⟨rfl, rfl, rfl, by decide +kernel, rfl, by decide +kernel, by decide +kernel⟩
abbrev s__law_is_small : Stmt := top 15
abbrev N__law_is_small : List Str := ["_law_parts", "_law_some", "_law_size", "_law_one_here", "_law_shape"]
abbrev P__law_is_small : List Str := ["_law_parts"]
theorem sc__law_is_small : FnScope N__law_is_small P__law_is_small (defScope s__law_is_small) := ⟨rfl, rfl, rfl, by decide +kernel, rfl, by decide +kernel, by decide +kernel⟩
abbrev s__law_program : Stmt := top 16
abbrev N__law_program : List Str := ["_law_deck_here", "_law_many", "_law_parts", "_law_turn"]
abbrev P__law_program : List Str := ["_law_deck_here", "_law_many"]
theorem sc__law_program : FnScope N__law_program P__law_program (defScope s__law_program) := ⟨rfl, rfl, rfl, by decide +kernel, rfl, by decide +kernel, by decide +kernel⟩
abbrev s__law_form_text : Stmt := top 17
abbrev N__law_form_text : List Str := ["_law_shape", "_law_found", "_law_number", "_law_name"]
abbrev P__law_form_text : List Str := ["_law_shape"]
theorem sc__law_form_text : FnScope N__law_form_text P__law_form_text (defScope s__law_form_text) := ⟨rfl, rfl, rfl, by decide +kernel, rfl, by decide +kernel, by decide +kernel⟩
abbrev s__law_written : Stmt := top 18
abbrev N__law_written : List Str := ["_law_parts", "_law_found", "_law_one_here", "_law_inner"]
abbrev P__law_written : List Str := ["_law_parts"]
theorem sc__law_written : FnScope N__law_written P__law_written (defScope s__law_written) := ⟨rfl, rfl, rfl, by decide +kernel, rfl, by decide +kernel, by decide +kernel⟩
abbrev s_law : Stmt := top 19
abbrev N_law : List Str := ["_law_script", "_law_deck_here", "_law_turn", "_law_program_here", "_law_held"]
abbrev P_law : List Str := ["_law_script"]
theorem sc_law : FnScope N_law P_law (defScope s_law) := ⟨rfl, rfl, rfl, by decide +kernel, rfl, by decide +kernel, by decide +kernel⟩
structure Tops (K : PySem.W.Frag) (mg : Str → Option Value) : Prop where
  t_program_text : Txt K mg "program_text" s_program_text P_program_text
  t_parts_text : Txt K mg "parts_text" s_parts_text P_parts_text
  t_part_told : Txt K mg "part_told" s_part_told P_part_told
  t_form_text : Txt K mg "form_text" s_form_text P_form_text
  t_term_text : Txt K mg "term_text" s_term_text P_term_text
  t_law_deck : Txt K mg "_law_deck" s__law_deck P__law_deck
  t_law_draw : Txt K mg "_law_draw" s__law_draw P__law_draw
  t_law_one : Txt K mg "_law_one" s__law_one P__law_one
  t_law_word : Txt K mg "_law_word" s__law_word P__law_word
  t_law_form : Txt K mg "_law_form" s__law_form P__law_form
  t_law_part : Txt K mg "_law_part" s__law_part P__law_part
  t_law_pieces : Txt K mg "_law_pieces" s__law_pieces P__law_pieces
  t_law_is_small : Txt K mg "_law_is_small" s__law_is_small P__law_is_small
  t_law_program : Txt K mg "_law_program" s__law_program P__law_program
  t_law_form_text : Txt K mg "_law_form_text" s__law_form_text P__law_form_text
  t_law_written : Txt K mg "_law_written" s__law_written P__law_written
  v_COUNTS : ∃ c, ConT K mg "COUNTS" ["n", "m", "p"] c
end Law

namespace Law
open PySem PySem.Spec PyProof.Rows L2 Ev
/-! ### the deck and what is drawn from it -/
def F_draw : DF := fun as n Q => ∃ m : Int, as = [.dk, .d (.int m)] ∧ 1 ≤ m ∧ m.natAbs < 2 ^ 8000 ∧ n < 1000000000 ∧ ∀ r : Int, 0 ≤ r → r < m → Q (.int r) (n + 1)
theorem ints_lay : ∀ cells : List Int, PyData.canLay0 (.list (cells.map PyData.int)) = true := by
  intro cells
  have : ∀ l : List Int, PyData.canLayAll0 (l.map PyData.int) = true := fun l => by
    induction l with
    | nil => rfl
    | cons a b ih => simp [PyData.canLayAll0, PyData.canLay0, ih]
  simpa [PyData.canLay0] using this cells
theorem ints_depth (cells : List Int) : PyData.depth (.list (cells.map PyData.int)) ≤ 64 := by
  have : ∀ l : List Int, PyData.depthAll (l.map PyData.int) ≤ 1 := fun l => by
    induction l with
    | nil => simp [PyData.depthAll]
    | cons a b ih => simp [PyData.depthAll, PyData.depth]; omega
  have := this cells
  simp only [PyData.depth]
  omega
theorem ints_shaped (cells : List Int) : SeqAt.shaped (.list (cells.map PyData.int)) = true := by
  unfold SeqAt.shaped
  rw [ints_lay, decide_eq_true (ints_depth cells)]
  rfl
theorem ints_dp {K : PySem.W.Frag} {H : Hp} : ∀ cells : List Int, DpAll K H (cells.map V.int) (cells.map PyData.int)
  | [] => .nil
  | a :: r => .cons (.int a) (ints_dp r)
theorem ints_eqv (cells : List Int) : PyData.eqv (.list (cells.map PyData.int)) (.list []) = cells.isEmpty := by
  cases cells <;> simp [PyData.eqv, PyData.eqvAll]
theorem fm_lo {a m : Int} (h : 1 ≤ m) : 0 ≤ a.fmod m := Int.fmod_nonneg_of_pos a (by omega)
theorem fm_hi {a m : Int} (h : 1 ≤ m) : a.fmod m < m := Int.fmod_lt_of_pos a (by omega)
section
variable {P : Program} {w : World} {K : PySem.W.Frag} {mg : Str → Option Value} {base : Heap} {f : Addr} {fd : FuncData} {k : Nat}
theorem fnG_nox {CX : CXT} {ps : List Str} {sp : Sp} {N : List Str} {x qual : Str} {st : Stmt} (F : Fun K x qual st f fd) (S : FnScope N ps (defScope st)) (len : ∀ vs H Q E, sp vs H Q E → vs.length = ps.length)
    (body : ∀ (cdv : Value) (A : Around) (o : List Env) (s : Shared) (H : Hp) (vs : List V) (Q : VK) (E : XK), Room k (A.deeper (envOfC qual (defScope st) s.heap.objs.size f cdv)) → A.guards = some [] → sp vs H Q E →
      ∃ t, PSs (cxOf CX P w K mg base N qual (defScope st) f cdv A o s H E).nox (defBody st) t ∧ t { nx := fun _ H' => Q .non H', rt := Q } (L2.start N vs) H) : FnG P w K mg base CX (k + 1) f fd ps sp :=
  fnG_of F S len fun cdv A o s H vs Q E hr hg h => by
    obtain ⟨t, b, h⟩ := body cdv A o s H vs Q E hr hg h
    exact ⟨t, b.nox, h⟩
theorem deck_upd {g : Gd} {n : Nat} {H : Hp} {p q : Int} (hc : g.c ≠ g.dk) (hl : g.cells.length ≤ 63) (h1 : H g.c = some (.lst (g.cells.map V.int))) (hq : 0 ≤ q) : Deck g n (upd H g.dk (.lst [.ref g.c, .int p, .int q, .int n])) :=
  ⟨hc, hl, by rw [upd_ne hc]; exact h1, p, q, hq, upd_same⟩
theorem ok_draw (U : Fun K "_law_draw" "_law_draw" s__law_draw f fd) (m_int : mg "int" = none) (m_len : mg "len" = none) (m_abs : mg "abs" = none) : FnG P w K mg base CX0 (k + 1) f fd P__law_draw (spD F_draw) := by
  have nd := sc__law_draw.nd
  refine fnG_nox U sc__law_draw (fun vs H Q E q => ?_) (fun cdv A o s H vs Q E hr hg q => ?_)
  · obtain ⟨g, n, as, Q1, _, r, ⟨m, rfl, _⟩, _⟩ := q
    exact r.len
  obtain ⟨g, n, as, Q1, d, r, ⟨m, rfl, hm, hb, hn, hq⟩, back⟩ := q
  cases r with
  | cons r1 r =>
  cases r with
  | cons r2 r =>
  cases r
  have r1 : _ = V.ref g.dk := r1
  subst r1
  cases r2
  obtain ⟨⟨hc, hl, h1, p, z, hz, h2⟩, hhid⟩ := d
  refine ⟨_, pss_cons (ps_asg (pe_op op_add (pe_ix ix_list (pv 0) pe_int (fun _ _ => rfl)) pe_int) (pg_sub (pv 0) pe_int set_list))
    (pss_cons (ps_if (pt_cmpR op_gt (pe_ix ix_list (pv 0) pe_int (fun _ _ => rfl)) pe_int (nomark _))
      (pss_cons (ps_set (i := 2) nd rfl (Or.inl rfl) (pe_op op_modN (pe_callTy call_int1 rfl m_int (by decide +kernel) (pa_cons (pe_ix ix_list (pv 0) pe_int (fun _ _ => rfl)) pa_nil)) (pv 1)))
      (pss_cons (ps_asg (pe_op op_fdivW (pe_ix ix_list (pv 0) pe_int (fun _ _ => rfl)) (pv 1)) (pg_sub (pv 0) pe_int set_list))
      (pss_one (ps_ret (pv 2))))) pss_nil)
    (pss_cons (ps_set (i := 3) nd rfl (Or.inl rfl) pe_int)
    (Evl.pss_cut (ps_if (pt_cmpR (op_neD hr.units) (pe_ix ix_list (pv 0) pe_int (fun _ _ => rfl)) (pe_lst pa_nil) (nomark _))
      (pss_one (ps_set (i := 3) nd rfl (Or.inl rfl) (pe_ix ix_list (pe_ix ix_list (pv 0) pe_int (fun _ _ => rfl)) (pe_op op_modN (pe_callTy call_int1 rfl m_int (by decide +kernel) (pa_cons (pe_ix ix_list (pv 0) pe_int (fun _ _ => rfl)) pa_nil)) (pe_callB call_len_seq rfl m_len (by decide +kernel) (pa_cons (pe_ix ix_list (pv 0) pe_int (fun _ _ => rfl)) pa_nil))) (fun _ _ => rfl)))) pss_nil)
    (pss_cons (ps_asg (pe_op op_add (pe_ix ix_list (pv 0) pe_int (fun _ _ => rfl)) pe_int) (pg_sub (pv 0) pe_int set_list))
    (Evl.pss_cut (ps_if (PW.pt (pw_and (pt_cmpR op_ge (pe_callB call_abs rfl m_abs (by decide +kernel) (pa_cons (pv 3) pa_nil)) (pe_op op_pow pe_int pe_int) (nomark _))
        (pw_and1 (pt_cmpR op_le (pe_ix ix_list (pv 0) pe_int (fun _ _ => rfl)) (pe_callB call_len_seq rfl m_len (by decide +kernel) (pa_cons (pe_ix ix_list (pv 0) pe_int (fun _ _ => rfl)) pa_nil)) (nomark _)))))
      (pss_cons (ps_asg (pe_op op_fdivW (pe_callB call_abs rfl m_abs (by decide +kernel) (pa_cons (pv 3) pa_nil)) (pv 1)) (pg_sub (pv 0) pe_int set_list))
      (pss_one (ps_ret (pe_op op_modN (pe_callTy call_int1 rfl m_int (by decide +kernel) (pa_cons (pe_callB call_abs rfl m_abs (by decide +kernel) (pa_cons (pv 3) pa_nil)) pa_nil)) (pv 1))))) pss_nil)
    (pss_cons (ps_set (i := 4) nd rfl (Or.inl rfl) (pe_op op_modN (pe_op op_pow (pe_callTy call_int1 rfl m_int (by decide +kernel) (pa_cons (pe_op op_add (pe_op op_modN (pe_callTy call_int1 rfl m_int (by decide +kernel) (pa_cons (pv 3) pa_nil)) pe_int) (pe_op op_mul pe_int (pe_ix ix_list (pv 0) pe_int (fun _ _ => rfl)))) pa_nil)) pe_int) pe_int))
    (pss_cons (ps_set (i := 4) nd rfl (Or.inl rfl) (pe_op op_modN (pe_op op_pow (pe_callTy call_int1 rfl m_int (by decide +kernel) (pa_cons (pe_op op_add (pe_op op_mul (pv 4) (pe_op op_add (pe_op op_mul pe_int (pe_ix ix_list (pv 0) pe_int (fun _ _ => rfl))) pe_int)) pe_int) pa_nil)) pe_int) pe_int))
    (pss_one (ps_ret (pe_op op_modN (pe_op op_fdivW (pv 4) pe_int) (pv 1))))))))))), ?_⟩
  have hm0 : m ≠ 0 := by omega
  have hdv : CDivW z m := ⟨by omega, Nat.lt_of_lt_of_le (PySem.Flt.log2_lt_of (by decide) hb) (by decide)⟩
  -- what is given back at the end
  have fin : ∀ (H1 : Hp) (r p' q' : Int), 0 ≤ q' → (∀ a o, a ≠ g.dk → H a = some o → H1 a = some o) → H1 g.dk = some (.lst [.ref g.c, .int p', .int q', .int ((n + 1 : Nat) : Int)]) → 0 ≤ r → r < m → Q (.int r) H1 := fun H1 r p' q' hq' e1 h2' r0 r1 =>
    back (.int r) (n + 1) (.int r) H1 (hq r r0 r1) e1 ⟨hc, hl, e1 _ _ hc h1, p', q', hq', h2'⟩ (.int r)
  -- deck[3] = deck[3] + 1
  refine ⟨_, rfl, g.dk, _, 3, _, rfl, rfl, SqL.of h2, rfl, _, _, rfl, rfl, _, rfl, g.dk, _, 3, 3, rfl, rfl, h2, rfl, ?_⟩
  have ed1 : ∀ {X : HO} {a : Addr} {o : HO}, a ≠ g.dk → H a = some o → upd H g.dk X a = some o := fun {X a o} ha h => by rw [upd_ne ha]; exact h
  have hk : (n : Int) + 1 = ((n + 1 : Nat) : Int) := by omega
  have q1 : upd H g.dk (.lst ([.ref g.c, .int p, .int z, .int n].set 3 (.int ((n : Int) + 1)))) g.dk = some (.lst [.ref g.c, .int p, .int z, .int ((n + 1 : Nat) : Int)]) := by rw [upd_same, ← hk] <;> rfl
  have e1 : ∀ a o, a ≠ g.dk → H a = some o → upd H g.dk (.lst ([.ref g.c, .int p, .int z, .int n].set 3 (.int ((n : Int) + 1)))) a = some o := fun a o ha h => ed1 ha h
  revert q1 e1
  generalize upd H g.dk (.lst ([.ref g.c, .int p, .int z, .int n].set 3 (.int ((n : Int) + 1)))) = H1
  intro q1 e1
  have c1 := e1 _ _ hc h1
  refine ⟨_, rfl, g.dk, _, 2, _, rfl, rfl, SqL.of q1, rfl, _, _, rfl, rfl, _, rfl, ?_⟩
  refine ite2 (fun ht => ?_) (fun ht => ?_)
  · refine ⟨_, rfl, g.dk, _, 2, _, rfl, rfl, SqL.of q1, rfl, .inl ⟨z, rfl, _, rfl, z, m, rfl, rfl, hm0, ?_⟩⟩
    refine ⟨_, rfl, g.dk, _, 2, _, rfl, rfl, SqL.of q1, rfl, _, rfl, z, m, rfl, rfl, hdv, _, rfl, g.dk, _, 2, 2, rfl, rfl, q1, rfl, ?_⟩
    refine ⟨_, rfl, fin _ _ p (z / m) (Int.ediv_nonneg hz (by omega)) (fun a o ha h => by rw [upd_ne ha]; exact e1 a o ha h) (by rw [upd_same] <;> rfl) (fm_lo hm) (fm_hi hm)⟩
  -- cell
  refine ⟨fun σ' H' => ∃ cell : Int, σ' = [some (.ref g.dk), some (.int m), none, some (.int cell), none] ∧ (∀ a o, a ≠ g.dk → H a = some o → H' a = some o) ∧ H' g.dk = some (.lst [.ref g.c, .int p, .int z, .int ((n + 1 : Nat) : Int)]), ?_, fun σ' H2 hmid => ?_⟩
  · refine ⟨_, rfl, g.dk, _, 0, _, rfl, rfl, SqL.of q1, rfl, Nat.zero_le _, fun nl hnl => ?_⟩
    have hne : nl ≠ g.dk := fun e => by rw [e, q1] at hnl; cases hnl
    have sm := Ev.same_new (.lst []) hnl
    have q1' := sm _ _ q1
    have e1' : ∀ a o, a ≠ g.dk → H a = some o → upd H1 nl (.lst []) a = some o := fun a o ha h => sm _ _ (e1 a o ha h)
    have c1' := sm _ _ c1
    have l0 : upd H1 nl (.lst []) nl = some (.lst []) := upd_same
    revert q1' e1' c1' l0
    generalize upd H1 nl (.lst []) = H2
    intro q1' e1' c1' l0
    refine ⟨.list (g.cells.map PyData.int), .list [], .lst (SqL.of c1') (ints_dp _), .lst (SqL.of l0) .nil, ints_shaped _, by decide, _, rfl, ?_⟩
    rw [ints_eqv]
    refine ite2 (fun he => ?_) (fun he => ⟨31, rfl, e1', q1'⟩)
    have hpos : 0 < g.cells.length := by
      cases hcs : g.cells with
      | nil => rw [hcs] at he; cases he
      | cons a b => simp
    have hlen : (g.cells.map V.int).length = g.cells.length := List.length_map _
    refine ⟨_, rfl, g.dk, _, 0, _, rfl, rfl, SqL.of q1', rfl, _, rfl, g.dk, _, 1, _, rfl, rfl, SqL.of q1', rfl, .inl ⟨p, rfl, _, rfl, g.dk, _, 0, _, rfl, rfl, SqL.of q1', rfl, g.c, _, rfl, .inl (SqL.of c1'), p, _, rfl, rfl, ?_, ?_⟩⟩
    · rw [hlen]; omega
    · have a0 : 0 ≤ p.fmod ((g.cells.map V.int).length : Nat) := by rw [hlen]; exact fm_lo (by omega)
      have a1 : p.fmod ((g.cells.map V.int).length : Nat) < g.cells.length := by rw [hlen]; exact fm_hi (by omega)
      obtain ⟨ix, hx, hix⟩ : ∃ j : Nat, p.fmod ((g.cells.map V.int).length : Nat) = (j : Int) ∧ j < g.cells.length := ⟨(p.fmod ((g.cells.map V.int).length : Nat)).toNat, by omega, by omega⟩
      refine ⟨g.c, _, (ix : Int), .int g.cells[ix], rfl, congrArg V.int hx, SqL.of c1', ?_, g.cells[ix], rfl, e1', q1'⟩
      exact atI_nat (by rw [List.getElem?_map, List.getElem?_eq_getElem hix] <;> rfl)
  obtain ⟨cell, rfl, e2, q2⟩ := hmid
  have c2 := e2 _ _ hc h1
  -- deck[1] = deck[1] + 1
  refine ⟨_, rfl, g.dk, _, 1, _, rfl, rfl, SqL.of q2, rfl, _, _, rfl, rfl, _, rfl, g.dk, _, 1, 1, rfl, rfl, q2, rfl, ?_⟩
  have q3 : upd H2 g.dk (.lst ([.ref g.c, .int p, .int z, .int ((n + 1 : Nat) : Int)].set 1 (.int (p + 1)))) g.dk = some (.lst [.ref g.c, .int (p + 1), .int z, .int ((n + 1 : Nat) : Int)]) := by rw [upd_same] <;> rfl
  have e3 : ∀ a o, a ≠ g.dk → H a = some o → upd H2 g.dk (.lst ([.ref g.c, .int p, .int z, .int ((n + 1 : Nat) : Int)].set 1 (.int (p + 1)))) a = some o := fun a o ha h => by rw [upd_ne ha]; exact e2 a o ha h
  revert q3 e3
  generalize upd H2 g.dk (.lst ([.ref g.c, .int p, .int z, .int ((n + 1 : Nat) : Int)].set 1 (.int (p + 1)))) = H3
  intro q3 e3
  have c3 := e3 _ _ hc h1
  have pw : CPow 10 18 := ⟨by decide, by decide, by decide⟩
  refine ⟨fun σ' H' => σ' = [some (.ref g.dk), some (.int m), none, some (.int cell), none] ∧ H' = H3, ?_, fun σ' H4 hmid => ?_⟩
  · refine ⟨_, rfl, cell, rfl, _, _, rfl, rfl, pw, _, _, rfl, rfl, _, rfl, ?_⟩
    refine ite2 (fun hbig => ?_) (fun hbig => iteF ⟨rfl, rfl⟩)
    refine ⟨_, rfl, g.dk, _, 1, _, rfl, rfl, SqL.of q3, rfl, _, rfl, g.dk, _, 0, _, rfl, rfl, SqL.of q3, rfl, g.c, _, rfl, .inl (SqL.of c3), _, _, rfl, rfl, _, rfl, ?_⟩
    refine ite2 (fun hin => ?_) (fun hin => ⟨rfl, rfl⟩)
    have nb : (0 : Int) ≤ (if cell < 0 then -cell else cell) := by split <;> omega
    refine ⟨_, rfl, cell, rfl, _, rfl, _, m, rfl, rfl, hdv, _, rfl, g.dk, _, 2, 2, rfl, rfl, q3, rfl, ?_⟩
    refine ⟨_, rfl, cell, rfl, .inl ⟨_, rfl, _, rfl, _, m, rfl, rfl, hm0, fin _ _ (p + 1) ((if cell < 0 then -cell else cell) / m) (Int.ediv_nonneg nb (by omega)) (fun a o ha h => by rw [upd_ne ha]; exact e3 a o ha h) (by rw [upd_same] <;> rfl) (fm_lo hm) (fm_hi hm)⟩⟩
  obtain ⟨rfl, rfl⟩ := hmid
  -- the mixing
  have f1 : ∀ a : Int, 0 ≤ a.fmod 2147483629 ∧ a.fmod 2147483629 < 2147483629 := fun a => ⟨Int.fmod_nonneg_of_pos a (by decide), Int.fmod_lt_of_pos a (by decide)⟩
  have f2 : ∀ a : Int, 0 ≤ a.fmod 2147483647 ∧ a.fmod 2147483647 < 2147483647 := fun a => ⟨Int.fmod_nonneg_of_pos a (by decide), Int.fmod_lt_of_pos a (by decide)⟩
  obtain ⟨x1, hx1⟩ : ∃ x, x = cell.fmod 2147483629 := ⟨_, rfl⟩
  have b1 := f1 cell
  rw [← hx1] at b1
  refine ⟨_, rfl, .inl ⟨cell, rfl, cell, _, rfl, rfl, (by show (2147483629 : Int) ≠ 0; decide), _, rfl, g.dk, _, 3, _, rfl, rfl, SqL.of q3, rfl, _, _, rfl, rfl, .inl ⟨by decide, by decide⟩, _, _, rfl, rfl, .inl ⟨_, rfl, _, _, rfl, rfl, ⟨by decide, by decide, ?_⟩, _, _, rfl, rfl, (by show (2147483647 : Int) ≠ 0; decide), ?_⟩⟩⟩
  · rw [← hx1]
    have : (104723 : Int) * ((n + 1 : Nat) : Int) ≤ 104723 * 1000000000 := Int.mul_le_mul_of_nonneg_left (by omega) (by decide)
    omega
  obtain ⟨x2, hx2⟩ : ∃ x, x = (((cell.fmod 2147483629 + 104723 * ((n + 1 : Nat) : Int)) ^ (5 : Int).toNat).fmod 2147483647) := ⟨_, rfl⟩
  have b2 := f2 ((cell.fmod 2147483629 + 104723 * ((n + 1 : Nat) : Int)) ^ (5 : Int).toNat)
  rw [← hx2] at b2
  refine ⟨_, rfl, _, rfl, g.dk, _, 3, _, rfl, rfl, SqL.of q3, rfl, _, _, rfl, rfl, .inl ⟨by decide, by decide⟩, _, _, rfl, rfl, x2, _, by rw [hx2], rfl, .inl ⟨by omega, by omega⟩, _, _, rfl, rfl, .inl ⟨_, rfl, _, _, rfl, rfl, ⟨by decide, by decide, ?_⟩, _, _, rfl, rfl, (by show (2147483587 : Int) ≠ 0; decide), ?_⟩⟩
  · have : x2 * (2 * ((n + 1 : Nat) : Int) + 3) ≤ 2147483647 * (2 * 1000000000 + 3) := Int.mul_le_mul (by omega) (by omega) (by omega) (by decide)
    have h0 : 0 ≤ x2 * (2 * ((n + 1 : Nat) : Int) + 3) := Int.mul_nonneg b2.1 (by omega)
    omega
  refine ⟨_, rfl, _, _, rfl, rfl, ⟨by decide, by decide⟩, _, rfl, _, m, rfl, rfl, hm0, fin _ _ (p + 1) z hz e3 q3 (fm_lo hm) (fm_hi hm)⟩
end
end Law

namespace Law
open PySem PySem.Spec PyProof.Rows L2 Ev
/-! ### programs -/
inductive Part where
  | text (w : Str)
  | loop (f : List Nat) (ps : List Part)
def fmD (f : List Nat) : PyData := .tuple (f.map fun (x : Nat) => PyData.int (x : Int))
mutual
def Part.data : Part → PyData
  | .text w => .tuple [.str "text", .str w]
  | .loop f ps => .tuple [.str "loop", fmD f, .tuple (dataAll ps)]
def dataAll : List Part → List PyData
  | [] => []
  | p :: r => p.data :: dataAll r
end
theorem dataAll_map : ∀ ps : List Part, dataAll ps = ps.map Part.data
  | [] => rfl
  | p :: r => by rw [dataAll, dataAll_map r]; rfl
def isOpen (f : List Nat) : Bool := f.tail.any (· != 0)
def abc (w : Str) : Prop := ∀ c ∈ w.cps.toList, 97 ≤ c ∧ c ≤ 122
mutual
def Part.dep : Part → Nat
  | .text _ => 0
  | .loop _ ps => depAll ps + 1
def depAll : List Part → Nat
  | [] => 0
  | p :: r => max p.dep (depAll r)
end
theorem depAll_le {d : Nat} : ∀ {ps : List Part}, depAll ps ≤ d ↔ ∀ p ∈ ps, p.dep ≤ d
  | [] => by simp [depAll]
  | p :: r => by simp [depAll, depAll_le (ps := r), Nat.max_le]
theorem NL_fm (f : List Nat) : NL (fmD f) = true := by
  unfold fmD NL
  exact NLA_map fun _ _ => rfl
mutual
theorem NL_data : ∀ p : Part, NL p.data = true
  | .text w => rfl
  | .loop f ps => by
    simp only [Part.data, NL, NLA, NL_datas ps, Bool.and_true, Bool.true_and]
    exact NL_fm f
theorem NL_datas : ∀ ps : List Part, NLA (dataAll ps) = true
  | [] => rfl
  | p :: r => by simp only [dataAll, NLA, NL_data p, NL_datas r, Bool.and_self]
end
theorem abc1 {c : Nat} (h : 97 ≤ c ∧ c ≤ 122) : abc ⟨#[c]⟩ := fun d hd => by
  have : d = c := by simpa using hd
  rw [this]
  exact h
section
variable {P : Program} {w : World} {K : PySem.W.Frag} {mg : Str → Option Value} {base : Heap}
def F_one : DF := fun as n Q => n < 1000000000 ∧ ((∃ xs : List PyData, as = [.dk, .d (.list xs)] ∧ 1 ≤ xs.length ∧ xs.length ≤ 1000000 ∧ ∀ x ∈ xs, Q x (n + 1)) ∨
  (∃ z : Str, as = [.dk, .d (.str z)] ∧ 1 ≤ z.length ∧ z.length ≤ 1000000 ∧ ∀ c ∈ z.cps.toList, Q (.str ⟨#[c]⟩) (n + 1)))
theorem small8000 {m : Int} (h0 : 0 ≤ m) (h : m ≤ 10 ^ 40) : m.natAbs < 2 ^ 8000 := by
  have h1 : m.natAbs ≤ 10 ^ 40 := by omega
  have h2 : (10 : Nat) ^ 40 < 2 ^ 8000 := by
    have : (10 : Nat) ^ 40 < 2 ^ 140 := by decide
    exact Nat.lt_of_lt_of_le this (Nat.pow_le_pow_right (by decide) (by decide))
  omega
theorem sz6 {n : Nat} (h : n ≤ 1000000) : n ≤ sizeLine := Nat.le_trans h (by decide)
theorem atI_mem {α : Type} {xs : List α} {r : Int} (h0 : 0 ≤ r) (h : r < xs.length) : ∃ x, atI xs r = some x ∧ x ∈ xs := by
  obtain ⟨j, rfl⟩ : ∃ j : Nat, r = j := ⟨r.toNat, by omega⟩
  have hj : j < xs.length := by omega
  exact ⟨xs[j], by rw [atI_ofNat, List.getElem?_eq_getElem hj], List.getElem_mem hj⟩
theorem c_one (T : Txt K mg "_law_one" s__law_one P__law_one) (B : Blt mg) (C__law_draw : Cal P w K mg base "_law_draw" P__law_draw 1 (spD F_draw)) : Cal P w K mg base "_law_one" P__law_one 2 (spD F_one) := by
  refine T.def sc__law_one (fun as n Q h => by rcases h with ⟨_, ⟨xs, rfl, _⟩ | ⟨xs, rfl, _⟩⟩ <;> rfl) (fun f cdv A o s H E hr hg => ⟨_, (b_one (s_ret (k_ix (K := K) (by rfl) (lv 1) (l_cal C__law_draw (hr.mono (by omega)) hg (by rfl) (a_cons (gv 0) (a_cons (g_ (l_callB (kb_len (K := K) (by rfl)) (by rfl) B.len (by decide +kernel) (a_cons (gv 1) a_nil))) a_nil))))))⟩) (fun as n Q h => ?_)
  obtain ⟨hn, ⟨xs, rfl, h1, h2, h3⟩ | ⟨z, rfl, h1, h2, h3⟩⟩ := h
  · simp (config := { maxSteps := 1000000 }) only [diZipC, diZipS, qStr_i, dSeq, dSet, dSetL, dRet, dRetO, dRetL, dIfS, dNext, dApp, dSetIx, dVar, dC, dOp, dFn, dFnL, dCons, dNil, dArg, dArgV, onD, datas, dTup, dLst, dLstL, dOfL, dAddL, dMulL, dIf, dTest, dTru, dNot, dAnd, dOr, dNotV, dAndV, dOrV, dSl, dPart, dNoPart, dCall, dMt, qAdd_i, qAdd_s, qAdd_t, qAdd_l, qSub_i, qDiv_i, qMod_i, qPow_i, qMul_i, qMul_s, qMul_t, qMul_l, qLt_i, qLe_i, qGt_i, qGe_i, qIx_l, qIx_t, qIx_s, qSl_l, qSl_t, qSl_s, qLen_l, qLen_t, qLen_s, qInt_i, qInt_b, qMin_i, qMax_i, qTup_l, qTup_t, qLst_l, qLst_t, qTru_n, qTru_b, qTru_i, qTru_s, qTru_l, qTru_t, qSum_l, qAny_l, qAny_t, qJoin_l, qCount_s, qEq_e, qNe_e, qRepr_e, dAsgT, dNeg, qNeg_i, dgTup, dgCons, dgName, dgNil, dPar, diR1, diOwn, diSeq, diL, diZip, diZipM, diVar, dParL, startS, toS, List.map_cons, List.map_nil, List.length_cons, List.length_nil, List.replicate, List.cons_append, List.nil_append, List.append_nil, List.getElem?_cons_zero, List.getElem?_cons_succ, List.set_cons_zero, List.set_cons_succ, Nat.reduceSub, Nat.reduceAdd, wipeS, canD, if_true, if_false, ite_true, ite_false, Bool.false_eq_true, PyData.bool.injEq, exists_eq_left', exists_eq_left, shp_i, shp_s, shp_b, shp_n, shp_e, shp_z, eqv_tt, eqv_lt, eqv_i, true_and, ix0, ix1, ix2, Option.some.injEq, PyData.tuple.injEq, PyData.list.injEq, PyData.int.injEq, PyData.str.injEq, S.own.injEq]
    refine ⟨xs.length, rfl, by omega, small8000 (by omega) (by omega), hn, fun r r0 r1 => ?_⟩
    obtain ⟨x, e, hx⟩ := atI_mem r0 r1
    exact ⟨x, e, h3 _ hx⟩
  · simp (config := { maxSteps := 1000000 }) only [diZipC, diZipS, qStr_i, dSeq, dSet, dSetL, dRet, dRetO, dRetL, dIfS, dNext, dApp, dSetIx, dVar, dC, dOp, dFn, dFnL, dCons, dNil, dArg, dArgV, onD, datas, dTup, dLst, dLstL, dOfL, dAddL, dMulL, dIf, dTest, dTru, dNot, dAnd, dOr, dNotV, dAndV, dOrV, dSl, dPart, dNoPart, dCall, dMt, qAdd_i, qAdd_s, qAdd_t, qAdd_l, qSub_i, qDiv_i, qMod_i, qPow_i, qMul_i, qMul_s, qMul_t, qMul_l, qLt_i, qLe_i, qGt_i, qGe_i, qIx_l, qIx_t, qIx_s, qSl_l, qSl_t, qSl_s, qLen_l, qLen_t, qLen_s, qInt_i, qInt_b, qMin_i, qMax_i, qTup_l, qTup_t, qLst_l, qLst_t, qTru_n, qTru_b, qTru_i, qTru_s, qTru_l, qTru_t, qSum_l, qAny_l, qAny_t, qJoin_l, qCount_s, qEq_e, qNe_e, qRepr_e, dAsgT, dNeg, qNeg_i, dgTup, dgCons, dgName, dgNil, dPar, diR1, diOwn, diSeq, diL, diZip, diZipM, diVar, dParL, startS, toS, List.map_cons, List.map_nil, List.length_cons, List.length_nil, List.replicate, List.cons_append, List.nil_append, List.append_nil, List.getElem?_cons_zero, List.getElem?_cons_succ, List.set_cons_zero, List.set_cons_succ, Nat.reduceSub, Nat.reduceAdd, wipeS, canD, if_true, if_false, ite_true, ite_false, Bool.false_eq_true, PyData.bool.injEq, exists_eq_left', exists_eq_left, shp_i, shp_s, shp_b, shp_n, shp_e, shp_z, eqv_tt, eqv_lt, eqv_i, true_and, ix0, ix1, ix2, Option.some.injEq, PyData.tuple.injEq, PyData.list.injEq, PyData.int.injEq, PyData.str.injEq, S.own.injEq]
    refine ⟨sz6 h2, z.length, rfl, by omega, small8000 (by omega) (by omega), hn, fun r r0 r1 => ⟨sz6 h2, ?_⟩⟩
    obtain ⟨x, e, hx⟩ := atI_mem (xs := z.cps.toList) r0 (by rw [← str_len]; exact r1)
    exact ⟨x, e, h3 _ hx⟩
theorem use_draw {m : Int} {n : Nat} {Q : DQ} (h1 : 1 ≤ m) (h2 : m ≤ 10 ^ 40) (hn : n < 1000000000) (h : ∀ r : Nat, (r : Int) < m → Q (.int r) (n + 1)) : F_draw [.dk, .d (.int m)] n Q :=
  ⟨m, rfl, h1, small8000 (by omega) h2, hn, fun r r0 r1 => by
    have e : r = ((r.toNat : Nat) : Int) := by omega
    rw [e] at r1 ⊢
    exact h _ r1⟩
theorem use_one {xs : List PyData} {n : Nat} {Q : DQ} (h1 : 1 ≤ xs.length) (h2 : xs.length ≤ 1000000) (hn : n < 1000000000) (h : ∀ x ∈ xs, Q x (n + 1)) : F_one [.dk, .d (.list xs)] n Q := ⟨hn, .inl ⟨xs, rfl, h1, h2, h⟩⟩
abbrev fI (f : List Nat) : List PyData := f.map fun (x : Nat) => PyData.int (x : Int)
theorem nats_of {b : Nat} : ∀ {l : List PyData}, (∀ y ∈ l, ∃ a : Nat, y = .int a ∧ a ≤ b) → ∃ f : List Nat, l = fI f ∧ ∀ x ∈ f, x ≤ b
  | [], _ => ⟨[], rfl, fun x h => by cases h⟩
  | y :: r, h => by
    obtain ⟨a, rfl, ha⟩ := h y List.mem_cons_self
    obtain ⟨f, rfl, hf⟩ := nats_of fun z hz => h z (List.mem_cons_of_mem _ hz)
    exact ⟨a :: f, rfl, fun x hx => (List.mem_cons.mp hx).elim (fun e => by rw [e]; exact ha) (hf x)⟩
theorem cut_tail {α : Type} (xs : List α) : cut xs (some 1) none = xs.tail := by
  unfold cut
  rw [HT.sIx_none, show HT.sIx xs.length 0 (some 1) = min 1 xs.length from HT.sIx_nat xs.length 0 1]
  cases xs with
  | nil => rfl
  | cons x r =>
    have : min 1 (x :: r).length = 1 := by simp
    rw [this]
    show List.take ((x :: r).length - 1) r = r
    rw [List.length_cons, Nat.add_sub_cancel, List.take_length]
theorem any_fI (f : List Nat) : (fI f).any tru1 = f.any (· != 0) := by
  unfold fI
  rw [List.any_map]
  congr 1
  funext x
  show ((x : Int) != 0) = (x != 0)
  cases x <;> rfl
theorem sc_fI (f : List Nat) : (fI f).all isSc = true := List.all_eq_true.mpr fun x hx => by
  obtain ⟨a, _, rfl⟩ := List.mem_map.mp hx
  rfl
theorem NLA_fI (f : List Nat) : NLA (fI f) = true := NLA_map fun _ _ => rfl
theorem tail_fI (f : List Nat) : (fI f).tail = fI f.tail := by cases f <;> rfl
theorem cal_none {x : Str} {st : Stmt} {ps : List Str} {k : Nat} {F : DF} (T : Txt K mg x st ps) (h : ∀ as n Q, ¬ F as n Q) : Cal P w K mg base x ps k (spD F) := T.cal fun f fd U =>
  ⟨fun vs H Q E ⟨_, n, as, Q1, _, _, h1, _⟩ => (h as n Q1 h1).elim, fun A o s H args us vs Q E _ _ _ _ _ ⟨_, n, as, Q1, _, _, h1, _⟩ => (h as n Q1 h1).elim⟩
theorem cmulW {i j : Int} (hi : i.natAbs < 2 ^ 400) (hj : j.natAbs < 2 ^ 400) : CMulW i j := wide_mul hi hj (by decide) (by decide) (by decide)
theorem cmulN {i j : Nat} (hi : i ≤ 10 ^ 100) (hj : j ≤ 10 ^ 100) : CMulW (i : Int) (j : Int) := by
  have h : (10 : Nat) ^ 100 < 2 ^ 400 := by decide +kernel
  exact cmulW (by rw [Int.natAbs_natCast]; omega) (by rw [Int.natAbs_natCast]; omega)
end
theorem range_get {m j : Nat} {d : PyData} (h : (rangeD 0 m)[j]? = some d) : j < m ∧ d = .int (j : Int) := by
  unfold rangeD at h
  rw [List.getElem?_map] at h
  obtain ⟨x, hx, rfl⟩ := Option.map_eq_some_iff.mp h
  obtain ⟨h1, h2⟩ := List.getElem?_eq_some_iff.mp hx
  rw [List.length_range] at h1
  rw [List.getElem_range] at h2
  subst h2
  exact ⟨h1, by rw [Int.zero_add]⟩
theorem range_len (m : Nat) : (rangeD 0 m).length = m := by simp [rangeD]
end Law

namespace Law
open PySem PySem.Spec PyProof.Rows L2 Ev
mutual
def Good (k : Nat) (free : Bool) : Part → Prop
  | .text w => w.length ≤ 4 ∧ abc w
  | .loop f ps => f.length = k + 1 ∧ (∀ x ∈ f, x ≤ 99) ∧ (isOpen f = true → free = true) ∧ (isOpen f = false → f.headD 0 ≤ 3) ∧ ps.length ≤ 2 ∧ GoodAll k (free && !isOpen f) ps
def GoodAll (k : Nat) (free : Bool) : List Part → Prop
  | [] => True
  | p :: r => Good k free p ∧ GoodAll k free r
end
theorem GoodAll_iff {k : Nat} {free : Bool} : ∀ {ps : List Part}, GoodAll k free ps ↔ ∀ p ∈ ps, Good k free p
  | [] => by simp [GoodAll]
  | p :: r => by simp [GoodAll, GoodAll_iff (ps := r)]
section
variable {P : Program} {w : World} {K : PySem.W.Frag} {mg : Str → Option Value} {base : Heap}
def F_word : DF := fun as n Q => as = [.dk, .d (.int 4)] ∧ n < 100000000 ∧ ∀ (z : Str) n', z.length ≤ 4 → abc z → n ≤ n' → n' ≤ n + 10 → Q (.str z) n'
theorem c_word (T : Txt K mg "_law_word" s__law_word P__law_word) (B : Blt mg) (C__law_draw : Cal P w K mg base "_law_draw" P__law_draw 1 (spD F_draw)) (C__law_one : Cal P w K mg base "_law_one" P__law_one 2 (spD F_one)) : Cal P w K mg base "_law_word" P__law_word 3 (spD F_word) := by
  refine T.def sc__law_word (fun as n Q h => by obtain ⟨rfl, _⟩ := h; rfl) (fun f cdv A o s H E hr hg => ⟨_, (b_cons (s_set (i := 2) sc__law_word.nd rfl (Or.inr rfl) (l_cal C__law_one (hr.mono (by omega)) hg (by rfl) (a_cons (gv 0) (a_cons (g_ (l_lst (a_cons (g_ l_str) (a_cons (g_ l_str) (a_cons (g_ l_str) (a_cons (g_ l_str) (a_cons (g_ l_str) a_nil))))))) a_nil))))
  (b_one (s_ret (k_join (K := K) (by rfl) l_str (l_L (f_lc (own := [("_law_turn", 3)]) rfl sc__law_word.nd (ic_ (i_range1 (by rfl) B.range (a_cons (g_ (l_cal C__law_draw (hr.mono (by omega)) hg (by rfl) (a_cons (gv 0) (a_cons (g_ (k_add (K := K) (by rfl) (lv 1) l_int)) a_nil)))) a_nil))) (blkOk_by (own := [("_law_turn", 3)]) (N := N__law_word) (sc := defScope s__law_word) (by decide +kernel)) (fun _ _ _ _ _ => (g_name (i := 3) sc__law_word.nd rfl (Or.inl rfl))) (fun _ _ _ _ _ => ts_nil) (fun _ _ _ _ _ => (l_cal C__law_one (hr.mono (by omega)) hg (by rfl) (a_cons (gv 0) (a_cons (gv 2) a_nil))))))))))⟩) (fun as n Q h => ?_)
  obtain ⟨rfl, hn, hq⟩ := h
  simp (config := { maxSteps := 1000000 }) only [diZipC, diZipS, qStr_i, dSeq, dSet, dSetL, dRet, dRetO, dRetL, dIfS, dNext, dApp, dSetIx, dVar, dC, dOp, dFn, dFnL, dCons, dNil, dArg, dArgV, onD, datas, dTup, dLst, dLstL, dOfL, dAddL, dMulL, dIf, dTest, dTru, dNot, dAnd, dOr, dNotV, dAndV, dOrV, dSl, dPart, dNoPart, dCall, dMt, qAdd_i, qAdd_s, qAdd_t, qAdd_l, qSub_i, qDiv_i, qMod_i, qPow_i, qMul_i, qMul_s, qMul_t, qMul_l, qLt_i, qLe_i, qGt_i, qGe_i, qIx_l, qIx_t, qIx_s, qSl_l, qSl_t, qSl_s, qLen_l, qLen_t, qLen_s, qInt_i, qInt_b, qMin_i, qMax_i, qTup_l, qTup_t, qLst_l, qLst_t, qTru_n, qTru_b, qTru_i, qTru_s, qTru_l, qTru_t, qSum_l, qAny_l, qAny_t, qJoin_l, qCount_s, qEq_e, qNe_e, qRepr_e, dAsgT, dNeg, qNeg_i, dgTup, dgCons, dgName, dgNil, dPar, diR1, diOwn, diSeq, diL, diZip, diZipM, diVar, dParL, startS, toS, List.map_cons, List.map_nil, List.length_cons, List.length_nil, List.replicate, List.cons_append, List.nil_append, List.append_nil, List.getElem?_cons_zero, List.getElem?_cons_succ, List.set_cons_zero, List.set_cons_succ, Nat.reduceSub, Nat.reduceAdd, wipeS, canD, if_true, if_false, ite_true, ite_false, Bool.false_eq_true, PyData.bool.injEq, exists_eq_left', exists_eq_left, shp_i, shp_s, shp_b, shp_n, shp_e, shp_z, eqv_tt, eqv_lt, eqv_i, true_and, ix0, ix1, ix2, Option.some.injEq, PyData.tuple.injEq, PyData.list.injEq, PyData.int.injEq, PyData.str.injEq, S.own.injEq]
  refine ⟨sz6 (by decide), by omega, .inl ⟨_, rfl, by decide, by decide, fun x hx => ?_⟩⟩
  obtain ⟨z, rfl, hz, hz1, hz2⟩ : ∃ z : Str, x = .str z ∧ abc z ∧ 1 ≤ z.length ∧ z.length ≤ 26 := by
    simp only [List.mem_cons, List.not_mem_nil, or_false] at hx
    rcases hx with rfl | rfl | rfl | rfl | rfl <;> exact ⟨_, rfl, by unfold abc; decide, by decide, by decide⟩
  refine ⟨.inl rfl, ⟨_, rfl⟩, ?_⟩
  refine lc_draw (fun xs n1 => xs.length ≤ 4 ∧ n + 1 ≤ n1 ∧ n1 ≤ n + 2) 1 (fun y => ∃ c : Nat, 97 ≤ c ∧ c ≤ 122 ∧ y = .str ⟨#[c]⟩) rfl (fun R hR => ?_) (fun y ⟨c, _, _, e⟩ => by rw [e]; rfl) (fun xs n1 ⟨g1, g2, g3⟩ => ⟨sz6 (by omega), fun d hd n' e1 e2 R hR => ?_, fun acc n' a1 a2 a3 a4 => ?_⟩)
  · refine ⟨5, rfl, by decide, small8000 (by decide) (by decide), by omega, fun r r0 r1 => ⟨_, rfl, by omega, by omega, hR _ _ ⟨?_, by omega, by omega⟩⟩⟩
    simp [rangeD]; omega
  · simp (config := { maxSteps := 1000000 }) only [diZipC, diZipS, qStr_i, dSeq, dSet, dSetL, dRet, dRetO, dRetL, dIfS, dNext, dApp, dSetIx, dVar, dC, dOp, dFn, dFnL, dCons, dNil, dArg, dArgV, onD, datas, dTup, dLst, dLstL, dOfL, dAddL, dMulL, dIf, dTest, dTru, dNot, dAnd, dOr, dNotV, dAndV, dOrV, dSl, dPart, dNoPart, dCall, dMt, qAdd_i, qAdd_s, qAdd_t, qAdd_l, qSub_i, qDiv_i, qMod_i, qPow_i, qMul_i, qMul_s, qMul_t, qMul_l, qLt_i, qLe_i, qGt_i, qGe_i, qIx_l, qIx_t, qIx_s, qSl_l, qSl_t, qSl_s, qLen_l, qLen_t, qLen_s, qInt_i, qInt_b, qMin_i, qMax_i, qTup_l, qTup_t, qLst_l, qLst_t, qTru_n, qTru_b, qTru_i, qTru_s, qTru_l, qTru_t, qSum_l, qAny_l, qAny_t, qJoin_l, qCount_s, qEq_e, qNe_e, qRepr_e, dAsgT, dNeg, qNeg_i, dgTup, dgCons, dgName, dgNil, dPar, diR1, diOwn, diSeq, diL, diZip, diZipM, diVar, dParL, startS, toS, List.map_cons, List.map_nil, List.length_cons, List.length_nil, List.replicate, List.cons_append, List.nil_append, List.append_nil, List.getElem?_cons_zero, List.getElem?_cons_succ, List.set_cons_zero, List.set_cons_succ, Nat.reduceSub, Nat.reduceAdd, wipeS, canD, if_true, if_false, ite_true, ite_false, Bool.false_eq_true, PyData.bool.injEq, exists_eq_left', exists_eq_left, shp_i, shp_s, shp_b, shp_n, shp_e, shp_z, eqv_tt, eqv_lt, eqv_i, true_and, ix0, ix1, ix2, Option.some.injEq, PyData.tuple.injEq, PyData.list.injEq, PyData.int.injEq, PyData.str.injEq, S.own.injEq]
    refine ⟨by omega, .inr ⟨z, rfl, hz1, by omega, fun c hc => hR _ _ ⟨c, (hz c hc).1, (hz c hc).2, rfl⟩ (by omega) (by omega)⟩⟩
  · obtain ⟨cs, rfl, hcs⟩ : ∃ cs : List Str, acc = cs.map PyData.str ∧ ∀ y ∈ cs, ∃ c : Nat, 97 ≤ c ∧ c ≤ 122 ∧ y = ⟨#[c]⟩ := by
      clear a1 a4
      induction acc with
      | nil => exact ⟨[], rfl, fun y hy => by cases hy⟩
      | cons y r ih =>
        obtain ⟨c, h1, h2, rfl⟩ := a2 y List.mem_cons_self
        obtain ⟨cs, rfl, h3⟩ := ih fun z hz => a2 z (List.mem_cons_of_mem _ hz)
        exact ⟨⟨#[c]⟩ :: cs, rfl, fun z hz => (List.mem_cons.mp hz).elim (fun e => ⟨c, h1, h2, e⟩) (h3 z)⟩
    have hone : (cs.map fun y => y.length) = cs.map fun _ => 1 := List.map_congr_left fun y hy => by
      obtain ⟨c, _, _, rfl⟩ := hcs y hy
      rfl
    have hsum : (cs.map fun y => y.length).sum = cs.length := by rw [hone, List.map_const', List.sum_replicate_nat, Nat.mul_one]
    have hl : cs.length ≤ 4 := by rw [List.length_map] at a1; omega
    refine ⟨cs, rfl, ?_, hq _ _ ?_ ?_ (by omega) (by omega)⟩
    · show (cs.map fun y => y.length).sum + cs.length * 0 ≤ 16777216
      rw [hsum]; omega
    · rw [join_len, hsum]; exact hl
    · intro c hc
      rw [Ev.join_list] at hc
      obtain ⟨l, hl, hc⟩ := List.mem_flatten.mp hc
      obtain ⟨y, hy, rfl⟩ := List.mem_map.mp hl
      obtain ⟨d, h1, h2, rfl⟩ := hcs y hy
      exact abc1 ⟨h1, h2⟩ c hc
end
end Law

namespace Law
open PySem PySem.Spec PyProof.Rows L2 Ev
section
variable {P : Program} {w : World} {K : PySem.W.Frag} {mg : Str → Option Value} {base : Heap}
def F_form : DF := fun as n Q => ∃ k : Nat, as = [.dk, .d (.int k)] ∧ 1 ≤ k ∧ k ≤ 3 ∧ n < 100000000 ∧ ∀ (f : List Nat) n', f.length = k + 1 → (∀ x ∈ f, x ≤ 99) → isOpen f = true → n ≤ n' → n' ≤ n + 20 → Q (fmD f) n'
theorem c_form (T : Txt K mg "_law_form" s__law_form P__law_form) (B : Blt mg) (C__law_draw : Cal P w K mg base "_law_draw" P__law_draw 1 (spD F_draw)) (C__law_one : Cal P w K mg base "_law_one" P__law_one 2 (spD F_one)) : Cal P w K mg base "_law_form" P__law_form 3 (spD F_form) := by
  refine T.def sc__law_form (fun as n Q h => by obtain ⟨k, rfl, _⟩ := h; rfl) (fun f cdv A o s H E hr hg => ⟨_, (b_cons (s_setL (i := 2) sc__law_form.nd rfl (Or.inl rfl) (f_lst (a_cons (g_ (l_cal C__law_one (hr.mono (by omega)) hg (by rfl) (a_cons (gv 0) (a_cons (g_ (l_lst (a_cons (g_ l_int) (a_cons (g_ l_int) (a_cons (g_ l_int) (a_cons (g_ l_int) (a_cons (g_ l_int) (a_cons (g_ l_int) (a_cons (g_ (l_cal C__law_draw (hr.mono (by omega)) hg (by rfl) (a_cons (gv 0) (a_cons (g_ l_int) a_nil)))) (a_cons (g_ (l_cal C__law_one (hr.mono (by omega)) hg (by rfl) (a_cons (gv 0) (a_cons (g_ (l_lst (a_cons (g_ l_int) (a_cons (g_ l_int) (a_cons (g_ l_int) a_nil))))) a_nil)))) a_nil)))))))))) a_nil)))) a_nil)))
  (b_cons (s_setL (i := 3) sc__law_form.nd rfl (Or.inr rfl) (f_lst (a_cons (g_ l_int) (a_cons (g_ l_int) (a_cons (g_ l_int) (a_cons (g_ l_int) (a_cons (g_ l_int) (a_cons (g_ (k_add (K := K) (by rfl) l_int (l_cal C__law_draw (hr.mono (by omega)) hg (by rfl) (a_cons (gv 0) (a_cons (g_ l_int) a_nil))))) (a_cons (g_ (k_add (K := K) (by rfl) l_int (l_cal C__law_draw (hr.mono (by omega)) hg (by rfl) (a_cons (gv 0) (a_cons (g_ l_int) a_nil))))) a_nil)))))))))
  (b_cons (s_setL (i := 2) sc__law_form.nd rfl (Or.inl rfl) (f_add (lv 2) (l_L (f_lc (own := [("_law_turn", 4)]) rfl sc__law_form.nd (ic_ (i_range1 (by rfl) B.range (a_cons (gv 1) a_nil))) (blkOk_by (own := [("_law_turn", 4)]) (N := N__law_form) (sc := defScope s__law_form) (by decide +kernel)) (fun _ _ _ _ _ => (g_name (i := 4) sc__law_form.nd rfl (Or.inl rfl))) (fun _ _ _ _ _ => ts_nil) (fun _ _ _ _ _ => (l_cal C__law_one (hr.mono (by omega)) hg (by rfl) (a_cons (gv 0) (a_cons (gv 3) a_nil))))))))
  (b_cons (s_if (lt_not (k_tru (K := K) (by rfl) (l_callB (kb_any (K := K) (by rfl) rfl) (by rfl) B.any (by decide +kernel) (a_cons (g_ (k_sl (K := K) (by rfl) (lv 2) (o_some l_int) o_none)) a_nil)))) (b_one (s_setIx (lv 2) (k_add (K := K) (by rfl) l_int (l_cal C__law_draw (hr.mono (by omega)) hg (by rfl) (a_cons (gv 0) (a_cons (gv 1) a_nil)))) (k_add (K := K) (by rfl) l_int (l_cal C__law_draw (hr.mono (by omega)) hg (by rfl) (a_cons (gv 0) (a_cons (g_ l_int) a_nil)))))) b_nil)
  (b_one (s_ret (l_callT (kb_tuple (K := K) (by rfl)) (by rfl) B.tuple (by decide +kernel) (a_cons (gv 2) a_nil))))))))⟩) (fun as n Q h => ?_)
  obtain ⟨k, rfl, hk1, hk3, hn, hq⟩ := h
  simp (config := { maxSteps := 1000000 }) only [diZipC, diZipS, qStr_i, dSeq, dSet, dSetL, dRet, dRetO, dRetL, dIfS, dNext, dApp, dSetIx, dVar, dC, dOp, dFn, dFnL, dCons, dNil, dArg, dArgV, onD, datas, dTup, dLst, dLstL, dOfL, dAddL, dMulL, dIf, dTest, dTru, dNot, dAnd, dOr, dNotV, dAndV, dOrV, dSl, dPart, dNoPart, dCall, dMt, qAdd_i, qAdd_s, qAdd_t, qAdd_l, qSub_i, qDiv_i, qMod_i, qPow_i, qMul_i, qMul_s, qMul_t, qMul_l, qLt_i, qLe_i, qGt_i, qGe_i, qIx_l, qIx_t, qIx_s, qSl_l, qSl_t, qSl_s, qLen_l, qLen_t, qLen_s, qInt_i, qInt_b, qMin_i, qMax_i, qTup_l, qTup_t, qLst_l, qLst_t, qTru_n, qTru_b, qTru_i, qTru_s, qTru_l, qTru_t, qSum_l, qAny_l, qAny_t, qJoin_l, qCount_s, qEq_e, qNe_e, qRepr_e, dAsgT, dNeg, qNeg_i, dgTup, dgCons, dgName, dgNil, dPar, diR1, diOwn, diSeq, diL, diZip, diZipM, diVar, dParL, startS, toS, List.map_cons, List.map_nil, List.length_cons, List.length_nil, List.replicate, List.cons_append, List.nil_append, List.append_nil, List.getElem?_cons_zero, List.getElem?_cons_succ, List.set_cons_zero, List.set_cons_succ, Nat.reduceSub, Nat.reduceAdd, wipeS, canD, if_true, if_false, ite_true, ite_false, Bool.false_eq_true, PyData.bool.injEq, exists_eq_left', exists_eq_left, shp_i, shp_s, shp_b, shp_n, shp_e, shp_z, eqv_tt, eqv_lt, eqv_i, true_and, ix0, ix1, ix2, Option.some.injEq, PyData.tuple.injEq, PyData.list.injEq, PyData.int.injEq, PyData.str.injEq, S.own.injEq]
  refine use_draw (by decide) (by decide) (by omega) fun r1 h1 => ⟨sz6 (by decide), use_one (by decide) (by decide) (by omega) fun x2 hx2 => ⟨sz6 (by decide), use_one (by simp) (by simp) (by omega) fun x3 hx3 => ?_⟩⟩
  obtain ⟨a, rfl, ha⟩ : ∃ a : Nat, x3 = .int a ∧ a ≤ 99 := by
    have h2 : ∃ b : Nat, x2 = .int b ∧ b ≤ 99 := by
      simp only [List.mem_cons, List.not_mem_nil, or_false] at hx2
      rcases hx2 with rfl | rfl | rfl
      · exact ⟨10, rfl, by decide⟩
      · exact ⟨11, rfl, by decide⟩
      · exact ⟨99, rfl, by decide⟩
    obtain ⟨b, rfl, hb⟩ := h2
    simp only [List.mem_cons, List.not_mem_nil, or_false] at hx3
    rcases hx3 with rfl | rfl | rfl | rfl | rfl | rfl | rfl | rfl
    · exact ⟨0, rfl, by decide⟩
    · exact ⟨0, rfl, by decide⟩
    · exact ⟨0, rfl, by decide⟩
    · exact ⟨1, rfl, by decide⟩
    · exact ⟨1, rfl, by decide⟩
    · exact ⟨2, rfl, by decide⟩
    · exact ⟨r1, rfl, by omega⟩
    · exact ⟨b, rfl, hb⟩
  refine ⟨sz6 (by decide), by decide, rfl, use_draw (by decide) (by decide) (by omega) fun r4 h4 => q_add (use_draw (by decide) (by decide) (by omega) fun r5 h5 => q_add ⟨sz6 (by decide), by decide, rfl, ?_⟩)⟩
  refine lc_draw (fun xs n1 => xs.length = k ∧ n1 = n + 5) 1 (fun y => ∃ b : Nat, y = .int b ∧ b ≤ 99) rfl (fun R hR => ?_) (fun y ⟨b, e, _⟩ => by rw [e]; rfl) (fun xs n1 ⟨g1, g2⟩ => ⟨sz6 (by omega), fun d hd n' e1 e2 R hR => ?_, fun acc n' a1 a2 a3 a4 => ?_⟩)
  · simp (config := { maxSteps := 1000000 }) only [diZipC, diZipS, qStr_i, dSeq, dSet, dSetL, dRet, dRetO, dRetL, dIfS, dNext, dApp, dSetIx, dVar, dC, dOp, dFn, dFnL, dCons, dNil, dArg, dArgV, onD, datas, dTup, dLst, dLstL, dOfL, dAddL, dMulL, dIf, dTest, dTru, dNot, dAnd, dOr, dNotV, dAndV, dOrV, dSl, dPart, dNoPart, dCall, dMt, qAdd_i, qAdd_s, qAdd_t, qAdd_l, qSub_i, qDiv_i, qMod_i, qPow_i, qMul_i, qMul_s, qMul_t, qMul_l, qLt_i, qLe_i, qGt_i, qGe_i, qIx_l, qIx_t, qIx_s, qSl_l, qSl_t, qSl_s, qLen_l, qLen_t, qLen_s, qInt_i, qInt_b, qMin_i, qMax_i, qTup_l, qTup_t, qLst_l, qLst_t, qTru_n, qTru_b, qTru_i, qTru_s, qTru_l, qTru_t, qSum_l, qAny_l, qAny_t, qJoin_l, qCount_s, qEq_e, qNe_e, qRepr_e, dAsgT, dNeg, qNeg_i, dgTup, dgCons, dgName, dgNil, dPar, diR1, diOwn, diSeq, diL, diZip, diZipM, diVar, dParL, startS, toS, List.map_cons, List.map_nil, List.length_cons, List.length_nil, List.replicate, List.cons_append, List.nil_append, List.append_nil, List.getElem?_cons_zero, List.getElem?_cons_succ, List.set_cons_zero, List.set_cons_succ, Nat.reduceSub, Nat.reduceAdd, wipeS, canD, if_true, if_false, ite_true, ite_false, Bool.false_eq_true, PyData.bool.injEq, exists_eq_left', exists_eq_left, shp_i, shp_s, shp_b, shp_n, shp_e, shp_z, eqv_tt, eqv_lt, eqv_i, true_and, ix0, ix1, ix2, Option.some.injEq, PyData.tuple.injEq, PyData.list.injEq, PyData.int.injEq, PyData.str.injEq, S.own.injEq]
    exact ⟨(k : Int), rfl, by omega, by omega, hR _ _ ⟨by simp [rangeD], rfl⟩⟩
  · simp (config := { maxSteps := 1000000 }) only [diZipC, diZipS, qStr_i, dSeq, dSet, dSetL, dRet, dRetO, dRetL, dIfS, dNext, dApp, dSetIx, dVar, dC, dOp, dFn, dFnL, dCons, dNil, dArg, dArgV, onD, datas, dTup, dLst, dLstL, dOfL, dAddL, dMulL, dIf, dTest, dTru, dNot, dAnd, dOr, dNotV, dAndV, dOrV, dSl, dPart, dNoPart, dCall, dMt, qAdd_i, qAdd_s, qAdd_t, qAdd_l, qSub_i, qDiv_i, qMod_i, qPow_i, qMul_i, qMul_s, qMul_t, qMul_l, qLt_i, qLe_i, qGt_i, qGe_i, qIx_l, qIx_t, qIx_s, qSl_l, qSl_t, qSl_s, qLen_l, qLen_t, qLen_s, qInt_i, qInt_b, qMin_i, qMax_i, qTup_l, qTup_t, qLst_l, qLst_t, qTru_n, qTru_b, qTru_i, qTru_s, qTru_l, qTru_t, qSum_l, qAny_l, qAny_t, qJoin_l, qCount_s, qEq_e, qNe_e, qRepr_e, dAsgT, dNeg, qNeg_i, dgTup, dgCons, dgName, dgNil, dPar, diR1, diOwn, diSeq, diL, diZip, diZipM, diVar, dParL, startS, toS, List.map_cons, List.map_nil, List.length_cons, List.length_nil, List.replicate, List.cons_append, List.nil_append, List.append_nil, List.getElem?_cons_zero, List.getElem?_cons_succ, List.set_cons_zero, List.set_cons_succ, Nat.reduceSub, Nat.reduceAdd, wipeS, canD, if_true, if_false, ite_true, ite_false, Bool.false_eq_true, PyData.bool.injEq, exists_eq_left', exists_eq_left, shp_i, shp_s, shp_b, shp_n, shp_e, shp_z, eqv_tt, eqv_lt, eqv_i, true_and, ix0, ix1, ix2, Option.some.injEq, PyData.tuple.injEq, PyData.list.injEq, PyData.int.injEq, PyData.str.injEq, S.own.injEq]
    refine use_one (by simp) (by simp) (by omega) fun y hy => hR _ _ ?_ (by omega) (by omega)
    simp only [List.mem_cons, List.not_mem_nil, or_false] at hy
    rcases hy with rfl | rfl | rfl | rfl | rfl | rfl | rfl
    · exact ⟨0, rfl, by decide⟩
    · exact ⟨0, rfl, by decide⟩
    · exact ⟨1, rfl, by decide⟩
    · exact ⟨1, rfl, by decide⟩
    · exact ⟨2, rfl, by decide⟩
    · exact ⟨1 + r4, by rw [Int.natCast_add]; rfl, by omega⟩
    · exact ⟨10 + r5, by rw [Int.natCast_add]; rfl, by omega⟩
  obtain ⟨g, rfl, hgb⟩ := nats_of a2
  have hgl : g.length = k := by rw [List.length_map] at a1; omega
  refine ⟨_, _, rfl, rfl, sz6 (by simp; omega), by decide, NLA_fI (a :: g), ?_⟩
  have ec : cut ([PyData.int a] ++ fI g) (some 1) none = fI g := by rw [cut_tail]; rfl
  rw [ec]
  refine ⟨sc_fI g, ?_⟩
  rw [any_fI]
  cases ho : g.any (· != 0) with
  | true =>
    rw [if_neg (by decide)]
    exact hq (a :: g) n' (by simp [hgl]) (fun x hx => (List.mem_cons.mp hx).elim (fun e => by rw [e]; exact ha) (hgb x)) ho (by omega) (by omega)
  | false =>
    rw [if_pos (show (!false) = true from rfl)]
    refine use_draw (by decide) (by decide) (by omega) fun r6 h6 => q_add (use_draw (by omega) (by omega) (by omega) fun r7 h7 => q_add ⟨1 + r7, 1 + r7, rfl, ?_, rfl, ?_⟩)
    · have : ((1 + r7 : Nat) : Int) = 1 + (r7 : Int) := by omega
      rw [← this]
      exact Evl.ixN_nat (by simp; omega)
    · have e : ([PyData.int a] ++ fI g).set (1 + r7) (.int (1 + r6)) = fI (a :: g.set r7 (1 + r6)) := by
        rw [Nat.add_comm 1 r7]
        show PyData.int a :: (fI g).set r7 (.int (1 + r6)) = PyData.int a :: fI (g.set r7 (1 + r6))
        have : PyData.int (1 + (r6 : Int)) = PyData.int ((1 + r6 : Nat) : Int) := by rw [Int.natCast_add]; rfl
        rw [this]
        unfold fI
        rw [List.map_set]
      show Q (.tuple (([PyData.int a] ++ fI g).set (1 + r7) (.int (1 + r6)))) _
      rw [e]
      refine hq _ _ (by simp [hgl]) (fun x hx => ?_) ?_ (by omega) (by omega)
      · rcases List.mem_cons.mp hx with e | hx
        · rw [e]; exact ha
        · rcases List.mem_or_eq_of_mem_set hx with h | h
          · exact hgb x h
          · omega
      · show (g.set r7 (1 + r6)).any (· != 0) = true
        refine List.any_eq_true.mpr ⟨1 + r6, by exact List.mem_set (l := g) (i := r7) (by omega) _, ?_⟩
        simp
end
end Law

namespace Law
open PySem PySem.Spec PyProof.Rows L2 Ev
section
variable {P : Program} {w : World} {K : PySem.W.Frag} {mg : Str → Option Value} {base : Heap}
def cost (d : Nat) : Nat := 50 * (2 ^ (d + 1) - 1)
theorem cost_succ (d : Nat) : cost (d + 1) = 50 + 2 * cost d := by
  unfold cost
  have : 2 ^ (d + 1) ≥ 1 := Nat.one_le_two_pow
  rw [Nat.pow_succ 2 (d + 1)]
  omega
def F_part (D : Nat) : DF := fun as n Q => ∃ (k d : Nat) (free : Bool), as = [.dk, .d (.int k), .d (.int d), .d (.bool free)] ∧ k ≤ 3 ∧ d < D ∧ d ≤ 3 ∧ n + 2 * cost d < 10000000 ∧ ∀ (pt : Part) n', Good k free pt → pt.dep ≤ d → n ≤ n' → n' ≤ n + cost d → Q pt.data n'
theorem c_part_step {D : Nat} (T : Txt K mg "_law_part" s__law_part P__law_part) (B : Blt mg) (C__law_draw : Cal P w K mg base "_law_draw" P__law_draw 1 (spD F_draw)) (C__law_word : Cal P w K mg base "_law_word" P__law_word 3 (spD F_word)) (C__law_form : Cal P w K mg base "_law_form" P__law_form 3 (spD F_form))
    (C__law_part : Cal P w K mg base "_law_part" P__law_part (3 + D) (spD (F_part D))) : Cal P w K mg base "_law_part" P__law_part (3 + D + 1) (spD (F_part (D + 1))) := by
  refine T.def sc__law_part (fun as n Q h => by obtain ⟨k, d, free, rfl, _⟩ := h; rfl) (fun f cdv A o s H E hr hg => ⟨_, (b_cons (s_set (i := 4) sc__law_part.nd rfl (Or.inl rfl) (l_cal C__law_draw (hr.mono (by omega)) hg (by rfl) (a_cons (gv 0) (a_cons (g_ l_int) a_nil))))
  (b_cons (s_if (lw_or (lt_cmp (k_eq (K := K) (by rfl) hr.units) (lv 2) l_int (nomark _)) (lw_or1 (lt_cmp c_lt (lv 4) l_int (nomark _)))).t (b_one (s_ret (l_tup (a_cons (g_ l_str) (a_cons (g_ (l_cal C__law_word (hr.mono (by omega)) hg (by rfl) (a_cons (gv 0) (a_cons (g_ l_int) a_nil)))) a_nil))))) b_nil)
  (b_cons (s_set (i := 5) sc__law_part.nd rfl (Or.inl rfl) (k_add (K := K) (by rfl) (l_tup (a_cons (g_ (l_cal C__law_draw (hr.mono (by omega)) hg (by rfl) (a_cons (gv 0) (a_cons (g_ l_int) a_nil)))) a_nil)) (k_mul (K := K) (by rfl) (l_tup (a_cons (g_ l_int) a_nil)) (lv 1))))
  (b_cons (s_if (lw_and (k_tru (K := K) (by rfl) (lv 3)) (lw_and (lt_cmp c_gt (lv 1) l_int (nomark _)) (lw_and1 (lt_cmp c_lt (lv 4) l_int (nomark _))))).t (b_one (s_asgT (l_tup (a_cons (g_ (l_cal C__law_form (hr.mono (by omega)) hg (by rfl) (a_cons (gv 0) (a_cons (gv 1) a_nil)))) (a_cons (g_ l_bl) a_nil))) (k_tup (n := 2) (K := K) (by rfl) (by rfl) (gs_cons (g_name (i := 5) sc__law_part.nd rfl (Or.inl rfl)) (gs_cons (g_name (i := 3) sc__law_part.nd rfl (Or.inr rfl)) gs_nil))))) b_nil)
  (b_cons (s_setLc (i := 6) (own := [("_law_turn", 7)]) rfl sc__law_part.nd rfl rfl (ic_ (i_range1 (by rfl) B.range (a_cons (g_ (k_add (K := K) (by rfl) l_int (l_cal C__law_draw (hr.mono (by omega)) hg (by rfl) (a_cons (gv 0) (a_cons (g_ l_int) a_nil))))) a_nil))) (blkOk_by (own := [("_law_turn", 7)]) (N := N__law_part) (sc := defScope s__law_part) (by decide +kernel)) (fun _ _ _ _ _ => (g_name (i := 7) sc__law_part.nd rfl (Or.inl rfl))) (fun _ _ _ _ _ => ts_nil) (fun _ _ _ _ _ => (l_cal C__law_part (hr.mono (by omega)) hg (by rfl) (a_cons (gv 0) (a_cons (gv 1) (a_cons (g_ (l_sub (lv 2) l_int)) (a_cons (gv 3) a_nil)))))) (sw_true rfl rfl rfl (by decide +kernel)))
  (b_one (s_ret (l_tup (a_cons (g_ l_str) (a_cons (gv 5) (a_cons (g_ (l_callT (kb_tuple (K := K) (by rfl)) (by rfl) B.tuple (by decide +kernel) (a_cons (gv 6) a_nil))) a_nil)))))))))))⟩) (fun as n Q h => ?_)
  obtain ⟨k, d, free, rfl, hk, hD, hd3, hn, hq⟩ := h
  -- what is behind the shape
  have tail : ∀ (f : List Nat) (fr : Bool) (x1 : PyData) (n1 : Nat), f.length = k + 1 → (∀ x ∈ f, x ≤ 99) → (isOpen f = true → free = true) → (isOpen f = false → f.headD 0 ≤ 3) → fr = (free && !isOpen f) → n ≤ n1 → n1 ≤ n + 45 → d ≠ 0 →
      dLc (diR1 (dCons (dArg (dOp qAdd (dC (PyData.int 1)) (dFn F_draw (dCons (dArgV 0) (dCons (dArg (dC (PyData.int 2))) dNil))))) dNil)) (dgName 7) dYes
        (dFn (F_part D) (dCons (dArgV 0) (dCons (dArgV 1) (dCons (dArg (dOp qSub (dVar 2) (dC (PyData.int 1)))) (dCons (dArgV 3) dNil))))) [7]
        [S.dk, S.d (PyData.int k), S.d (PyData.int d), S.d (PyData.bool fr), S.d x1, S.d (fmD f), S.un, S.un] n1 fun xs n' => 6 < 8 ∧ NLA xs = true ∧ 3 ≤ sizeLine ∧ Q (PyData.tuple [PyData.str (Str.ofString "loop"), fmD f, PyData.tuple xs]) n' := by
    intro f fr x1 n1 h1 h2 h3 h4 h5 h6 h7 hd0
    obtain ⟨e, rfl⟩ : ∃ e, d = e + 1 := ⟨d - 1, by omega⟩
    have hc := cost_succ e
    refine lc_draw (fun xs n2 => xs.length ≤ 2 ∧ n2 = n1 + 1) (cost e) (fun y => ∃ pt : Part, y = pt.data ∧ Good k fr pt ∧ pt.dep ≤ e) rfl (fun R hR => ?_) (fun y ⟨pt, e, _⟩ => by rw [e]; exact NL_data pt) (fun xs n2 ⟨g1, g2⟩ => ⟨sz6 (by omega), fun d' hd n' e1 e2 R hR => ?_, fun acc n' a1 a2 a3 a4 => ?_⟩)
    · simp (config := { maxSteps := 1000000 }) only [diZipC, diZipS, qStr_i, dSeq, dSet, dSetL, dRet, dRetO, dRetL, dIfS, dNext, dApp, dSetIx, dVar, dC, dOp, dFn, dFnL, dCons, dNil, dArg, dArgV, onD, datas, dTup, dLst, dLstL, dOfL, dAddL, dMulL, dIf, dTest, dTru, dNot, dAnd, dOr, dNotV, dAndV, dOrV, dSl, dPart, dNoPart, dCall, dMt, qAdd_i, qAdd_s, qAdd_t, qAdd_l, qSub_i, qDiv_i, qMod_i, qPow_i, qMul_i, qMul_s, qMul_t, qMul_l, qLt_i, qLe_i, qGt_i, qGe_i, qIx_l, qIx_t, qIx_s, qSl_l, qSl_t, qSl_s, qLen_l, qLen_t, qLen_s, qInt_i, qInt_b, qMin_i, qMax_i, qTup_l, qTup_t, qLst_l, qLst_t, qTru_n, qTru_b, qTru_i, qTru_s, qTru_l, qTru_t, qSum_l, qAny_l, qAny_t, qJoin_l, qCount_s, qEq_e, qNe_e, qRepr_e, dAsgT, dNeg, qNeg_i, dgTup, dgCons, dgName, dgNil, dPar, diR1, diOwn, diSeq, diL, diZip, diZipM, diVar, dParL, startS, toS, List.map_cons, List.map_nil, List.length_cons, List.length_nil, List.replicate, List.cons_append, List.nil_append, List.append_nil, List.getElem?_cons_zero, List.getElem?_cons_succ, List.set_cons_zero, List.set_cons_succ, Nat.reduceSub, Nat.reduceAdd, wipeS, canD, if_true, if_false, ite_true, ite_false, Bool.false_eq_true, PyData.bool.injEq, exists_eq_left', exists_eq_left, shp_i, shp_s, shp_b, shp_n, shp_e, shp_z, eqv_tt, eqv_lt, eqv_i, true_and, ix0, ix1, ix2, Option.some.injEq, PyData.tuple.injEq, PyData.list.injEq, PyData.int.injEq, PyData.str.injEq, S.own.injEq]
      refine use_draw (by decide) (by decide) (by omega) fun r hr => q_add ⟨_, rfl, by omega, by omega, hR _ _ ⟨?_, rfl⟩⟩
      simp [rangeD]; omega
    · have hb : cost e * xs.length ≤ cost e * 2 := Nat.mul_le_mul_left _ g1
      have hce : cost e ≤ 750 := by
        have : e ≤ 3 := by omega
        rcases e with _ | _ | _ | _ | e <;> simp [cost] <;> omega
      simp (config := { maxSteps := 1000000 }) only [diZipC, diZipS, qStr_i, dSeq, dSet, dSetL, dRet, dRetO, dRetL, dIfS, dNext, dApp, dSetIx, dVar, dC, dOp, dFn, dFnL, dCons, dNil, dArg, dArgV, onD, datas, dTup, dLst, dLstL, dOfL, dAddL, dMulL, dIf, dTest, dTru, dNot, dAnd, dOr, dNotV, dAndV, dOrV, dSl, dPart, dNoPart, dCall, dMt, qAdd_i, qAdd_s, qAdd_t, qAdd_l, qSub_i, qDiv_i, qMod_i, qPow_i, qMul_i, qMul_s, qMul_t, qMul_l, qLt_i, qLe_i, qGt_i, qGe_i, qIx_l, qIx_t, qIx_s, qSl_l, qSl_t, qSl_s, qLen_l, qLen_t, qLen_s, qInt_i, qInt_b, qMin_i, qMax_i, qTup_l, qTup_t, qLst_l, qLst_t, qTru_n, qTru_b, qTru_i, qTru_s, qTru_l, qTru_t, qSum_l, qAny_l, qAny_t, qJoin_l, qCount_s, qEq_e, qNe_e, qRepr_e, dAsgT, dNeg, qNeg_i, dgTup, dgCons, dgName, dgNil, dPar, diR1, diOwn, diSeq, diL, diZip, diZipM, diVar, dParL, startS, toS, List.map_cons, List.map_nil, List.length_cons, List.length_nil, List.replicate, List.cons_append, List.nil_append, List.append_nil, List.getElem?_cons_zero, List.getElem?_cons_succ, List.set_cons_zero, List.set_cons_succ, Nat.reduceSub, Nat.reduceAdd, wipeS, canD, if_true, if_false, ite_true, ite_false, Bool.false_eq_true, PyData.bool.injEq, exists_eq_left', exists_eq_left, shp_i, shp_s, shp_b, shp_n, shp_e, shp_z, eqv_tt, eqv_lt, eqv_i, true_and, ix0, ix1, ix2, Option.some.injEq, PyData.tuple.injEq, PyData.list.injEq, PyData.int.injEq, PyData.str.injEq, S.own.injEq]
      refine ⟨k, e, fr, ?_, hk, by omega, by omega, by omega, fun pt n3 p1 p2 p3 p4 => hR _ _ ⟨pt, rfl, p1, p2⟩ p3 p4⟩
      have : ((e + 1 : Nat) : Int) - 1 = (e : Int) := by omega
      rw [this]
    · have hb : cost e * xs.length ≤ cost e * 2 := Nat.mul_le_mul_left _ g1
      obtain ⟨ps, rfl, hps⟩ : ∃ ps : List Part, acc = dataAll ps ∧ ∀ p ∈ ps, Good k fr p ∧ p.dep ≤ e := by
        clear a1 a4
        induction acc with
        | nil => exact ⟨[], rfl, fun y hy => by cases hy⟩
        | cons y r ih =>
          obtain ⟨pt, rfl, p1, p2⟩ := a2 y List.mem_cons_self
          obtain ⟨ps, rfl, h3⟩ := ih fun z hz => a2 z (List.mem_cons_of_mem _ hz)
          exact ⟨pt :: ps, rfl, fun z hz => (List.mem_cons.mp hz).elim (fun e => by rw [e]; exact ⟨p1, p2⟩) (h3 z)⟩
      have hl : ps.length ≤ 2 := by
        rw [dataAll_map, List.length_map] at a1
        omega
      refine ⟨by decide, NL_datas ps, sz6 (by decide), hq (.loop f ps) n' ?_ ?_ (by omega) (by omega)⟩
      · exact ⟨h1, h2, h3, h4, hl, GoodAll_iff.mpr fun p hp => by rw [← h5]; exact (hps p hp).1⟩
      · show depAll ps + 1 ≤ e + 1
        exact Nat.succ_le_succ (depAll_le.mpr fun p hp => (hps p hp).2)
  have hcd : 50 ≤ cost d := by
    unfold cost
    have : 2 ^ (d + 1) ≥ 2 := by rw [Nat.pow_succ]; have := Nat.one_le_two_pow (n := d); omega
    omega
  have word : ∀ n1 : Nat, n ≤ n1 → n1 ≤ n + 20 → F_word [W.dk, W.d (PyData.int 4)] n1 fun d n' => 2 ≤ sizeLine ∧ Q (PyData.tuple [PyData.str (Str.ofString "text"), d]) n' := fun n1 h1 h2 =>
    ⟨rfl, by omega, fun z n' z1 z2 z3 z4 => ⟨sz6 (by decide), hq (.text z) n' ⟨z1, z2⟩ (Nat.zero_le _) (by omega) (by omega)⟩⟩
  simp (config := { maxSteps := 1000000 }) only [diZipC, diZipS, qStr_i, dSeq, dSet, dSetL, dRet, dRetO, dRetL, dIfS, dNext, dApp, dSetIx, dVar, dC, dOp, dFn, dFnL, dCons, dNil, dArg, dArgV, onD, datas, dTup, dLst, dLstL, dOfL, dAddL, dMulL, dIf, dTest, dTru, dNot, dAnd, dOr, dNotV, dAndV, dOrV, dSl, dPart, dNoPart, dCall, dMt, qAdd_i, qAdd_s, qAdd_t, qAdd_l, qSub_i, qDiv_i, qMod_i, qPow_i, qMul_i, qMul_s, qMul_t, qMul_l, qLt_i, qLe_i, qGt_i, qGe_i, qIx_l, qIx_t, qIx_s, qSl_l, qSl_t, qSl_s, qLen_l, qLen_t, qLen_s, qInt_i, qInt_b, qMin_i, qMax_i, qTup_l, qTup_t, qLst_l, qLst_t, qTru_n, qTru_b, qTru_i, qTru_s, qTru_l, qTru_t, qSum_l, qAny_l, qAny_t, qJoin_l, qCount_s, qEq_e, qNe_e, qRepr_e, dAsgT, dNeg, qNeg_i, dgTup, dgCons, dgName, dgNil, dPar, diR1, diOwn, diSeq, diL, diZip, diZipM, diVar, dParL, startS, toS, List.map_cons, List.map_nil, List.length_cons, List.length_nil, List.replicate, List.cons_append, List.nil_append, List.append_nil, List.getElem?_cons_zero, List.getElem?_cons_succ, List.set_cons_zero, List.set_cons_succ, Nat.reduceSub, Nat.reduceAdd, wipeS, canD, if_true, if_false, ite_true, ite_false, Bool.false_eq_true, PyData.bool.injEq, exists_eq_left', exists_eq_left, shp_i, shp_s, shp_b, shp_n, shp_e, shp_z, eqv_tt, eqv_lt, eqv_i, true_and, ix0, ix1, ix2, Option.some.injEq, PyData.tuple.injEq, PyData.list.injEq, PyData.int.injEq, PyData.str.injEq, S.own.injEq]
  refine use_draw (by decide) (by decide) (by omega) fun r hr => ⟨.inl rfl, ?_⟩
  have sh0 : ∀ x : Nat, PyData.tuple (PyData.int (x : Int) :: (List.replicate (k : Int).toNat [PyData.int 0]).flatten) = fmD (x :: List.replicate k 0) := fun x => by
    rw [Int.toNat_natCast, List.flatten_replicate_singleton]
    show PyData.tuple _ = PyData.tuple (fI (x :: List.replicate k 0))
    unfold fI
    rw [List.map_cons, List.map_replicate]
    rfl
  have cl0 : ∀ x : Nat, isOpen (x :: List.replicate k 0) = false := fun x => by
    unfold isOpen
    rw [List.tail_cons, List.any_replicate]
    split <;> rfl
  have fixed : ∀ (x n1 : Nat), x < 4 → n ≤ n1 → n1 ≤ n + 45 → d ≠ 0 → _ := fun x n1 hx h1 h2 h3 => tail (x :: List.replicate k 0) free (PyData.int r) n1 (by simp) (fun y hy => by
      rcases List.mem_cons.mp hy with e | hy
      · omega
      · rw [List.eq_of_mem_replicate hy]; omega) (fun e => by rw [cl0] at e; cases e) (fun _ => by show x ≤ 3; omega) (by rw [cl0]; simp) h1 h2 h3
  by_cases h0 : (d : Int) = 0
  · rw [decide_eq_true h0, if_pos rfl]
    exact word _ (by omega) (by omega)
  · rw [decide_eq_false h0, if_neg (by decide)]
    have hd0 : d ≠ 0 := by omega
    rw [qLt_i]
    refine ⟨_, rfl, ?_⟩
    by_cases h1 : (r : Int) < 2
    · rw [decide_eq_true h1, if_pos rfl]
      exact word _ (by omega) (by omega)
    · rw [decide_eq_false h1, if_neg (by decide)]
      refine use_draw (by decide) (by decide) (by omega) fun x hx => ⟨sz6 (by decide), sz6 (by decide), by omega, by omega, by decide, sz6 (by rw [Int.toNat_natCast, List.flatten_replicate_singleton, List.length_replicate]; omega), ?_⟩
      rw [sh0]
      refine ⟨.inl (NL_fm _), ?_⟩
      cases free with
      | false =>
        rw [if_neg (by decide)]
        exact fixed x _ (by omega) (by omega) (by omega) hd0
      | true =>
        rw [if_pos rfl]
        by_cases h2 : (k : Int) > 0
        · rw [decide_eq_true h2, if_pos rfl]
          rw [qLt_i]
          refine ⟨_, rfl, ?_⟩
          by_cases h3 : (r : Int) < 5
          · rw [decide_eq_true h3, if_pos rfl]
            refine ⟨k, rfl, by omega, hk, by omega, fun f n2 f1 f2 f3 f4 f5 => ⟨sz6 (by decide), .inl ?_, ?_⟩⟩
            · simp only [NL, NLA, NL_fm, Bool.and_self]
            · exact tail f false (PyData.int r) n2 f1 f2 (fun _ => rfl) (fun e => by rw [f3] at e; cases e) (by rw [f3]; rfl) (by omega) (by omega) hd0
          · rw [decide_eq_false h3, if_neg (by decide)]
            exact fixed x _ (by omega) (by omega) (by omega) hd0
        · rw [decide_eq_false h2, if_neg (by decide)]
          exact fixed x _ (by omega) (by omega) (by omega) hd0
theorem c_part (T : Txt K mg "_law_part" s__law_part P__law_part) (B : Blt mg) (C1 : Cal P w K mg base "_law_draw" P__law_draw 1 (spD F_draw)) (C2 : Cal P w K mg base "_law_word" P__law_word 3 (spD F_word)) (C3 : Cal P w K mg base "_law_form" P__law_form 3 (spD F_form)) :
    ∀ D : Nat, Cal P w K mg base "_law_part" P__law_part (3 + D) (spD (F_part D))
  | 0 => cal_none T fun as n Q ⟨_, _, _, _, _, h, _⟩ => absurd h (Nat.not_lt_zero _)
  | D + 1 => c_part_step T B C1 C2 C3 (c_part T B C1 C2 C3 D)
end
end Law

namespace Law
open PySem PySem.Spec PyProof.Rows L2 Ev
/-! ### pieces -/
abbrev Pc := Str × Option (List Nat)
def catL (l : List Pc) : List Nat := (l.map fun q => q.1.cps.toList).flatten
mutual
def pcs : Part → List Pc
  | .text w => [(w, none)]
  | .loop f ps => if isOpen f = true then [(ofL (catL (pcsA ps)), some f)] else (List.replicate (f.headD 0) (pcsA ps)).flatten
def pcsA : List Part → List Pc
  | [] => []
  | p :: r => pcs p ++ pcsA r
end
theorem pcsA_app : ∀ a b : List Part, pcsA (a ++ b) = pcsA a ++ pcsA b
  | [], b => rfl
  | p :: r, b => by rw [List.cons_append, pcsA, pcsA, pcsA_app r b, List.append_assoc]
def shD : Option (List Nat) → PyData
  | none => .none
  | some f => fmD f
def pcD (q : Pc) : PyData := .tuple [.str q.1, shD q.2]
theorem NL_sh (o : Option (List Nat)) : NL (shD o) = true := by
  cases o with
  | none => rfl
  | some f => exact NL_fm f
theorem NL_pc (q : Pc) : NL (pcD q) = true := by simp only [pcD, NL, NLA, NL_sh, Bool.and_self]
theorem NLA_pcs (l : List Pc) : NLA (l.map pcD) = true := NLA_map fun q _ => NL_pc q
def lets (l : List Pc) : Nat := (l.map fun q => q.1.length).sum
theorem lets_app (a b : List Pc) : lets (a ++ b) = lets a + lets b := by simp [lets]
theorem lets_rep (l : List Pc) : ∀ n : Nat, lets (List.replicate n l).flatten = n * lets l
  | 0 => by simp [lets]
  | n + 1 => by rw [List.replicate_succ, List.flatten_cons, lets_app, lets_rep l n, Nat.succ_mul, Nat.add_comm]
theorem catL_len (l : List Pc) : (catL l).length = lets l := by
  unfold catL lets
  rw [List.length_flatten, List.map_map]
  congr 1
theorem join_cat (l : List Pc) : Txt.join "" (l.map fun q => q.1) = ofL (catL l) := str_ext (by rw [Ev.join_list, ofL_list, List.map_map]; rfl)
theorem pow6 {d e : Nat} (h : d ≤ e) : 6 ^ d ≤ 6 ^ e := Nat.pow_le_pow_right (by decide) h
mutual
theorem pcs_le {k : Nat} : ∀ (p : Part) (free : Bool) (d : Nat), Good k free p → p.dep ≤ d → (pcs p).length ≤ 6 ^ d ∧ lets (pcs p) ≤ 4 * 6 ^ d
  | .text w, free, d, h, _ => by
    have h1 : 1 ≤ 6 ^ d := Nat.one_le_pow _ _ (by decide)
    have h2 : w.length ≤ 4 := h.1
    simp [pcs, lets]
    omega
  | .loop f ps, free, d, h, hd => by
    obtain ⟨e, rfl⟩ : ∃ e, d = e + 1 := ⟨d - 1, by have : depAll ps + 1 ≤ d := hd; omega⟩
    have hd' : depAll ps ≤ e := Nat.le_of_succ_le_succ hd
    obtain ⟨h1, h2, h3, h4, h5, h6⟩ := h
    obtain ⟨i1, i2⟩ := pcsA_le ps (free && !isOpen f) e h6 hd'
    have hp : 6 ^ (e + 1) = 6 * 6 ^ e := by rw [Nat.pow_succ, Nat.mul_comm]
    have hp1 : 1 ≤ 6 ^ e := Nat.one_le_pow _ _ (by decide)
    have m1 : ps.length * 6 ^ e ≤ 2 * 6 ^ e := Nat.mul_le_mul_right _ h5
    have m2 : ps.length * (4 * 6 ^ e) ≤ 2 * (4 * 6 ^ e) := Nat.mul_le_mul_right _ h5
    unfold pcs
    cases ho : isOpen f with
    | true =>
      rw [if_pos rfl]
      refine ⟨by simp; omega, ?_⟩
      show (ofL (catL (pcsA ps))).length + 0 ≤ _
      rw [ofL_len, catL_len]
      omega
    | false =>
      rw [if_neg (by decide)]
      have h4 := h4 ho
      refine ⟨?_, ?_⟩
      · rw [List.length_flatten, List.map_replicate, List.sum_replicate_nat]
        have : f.headD 0 * (pcsA ps).length ≤ 3 * (2 * 6 ^ e) := Nat.mul_le_mul h4 (by omega)
        omega
      · rw [lets_rep]
        have : f.headD 0 * lets (pcsA ps) ≤ 3 * (2 * (4 * 6 ^ e)) := Nat.mul_le_mul h4 (by omega)
        omega
theorem pcsA_le {k : Nat} : ∀ (ps : List Part) (free : Bool) (d : Nat), GoodAll k free ps → depAll ps ≤ d → (pcsA ps).length ≤ ps.length * 6 ^ d ∧ lets (pcsA ps) ≤ ps.length * (4 * 6 ^ d)
  | [], _, _, _, _ => by simp [pcsA, lets]
  | p :: r, free, d, h, hd => by
    obtain ⟨i1, i2⟩ := pcs_le p free d h.1 (Nat.le_trans (Nat.le_max_left _ _) hd)
    obtain ⟨j1, j2⟩ := pcsA_le r free d h.2 (Nat.le_trans (Nat.le_max_right _ _) hd)
    rw [pcsA, List.length_append, lets_app, List.length_cons, Nat.succ_mul, Nat.succ_mul]
    omega
end
section
variable {P : Program} {w : World} {K : PySem.W.Frag} {mg : Str → Option Value} {base : Heap}
def F_pieces (D : Nat) : DFL := fun as n Q => ∃ (k : Nat) (free : Bool) (ps : List Part), as = [.d (.tuple (dataAll ps))] ∧ GoodAll k free ps ∧ ps.length ≤ 5 ∧ depAll ps < D ∧ depAll ps ≤ 3 ∧ Q ((pcsA ps).map pcD) n
theorem calL_none {x : Str} {st : Stmt} {ps : List Str} {k : Nat} {F : DFL} (T : Txt K mg x st ps) (h : ∀ as n Q, ¬ F as n Q) : Cal P w K mg base x ps k (spL F) := T.cal fun f fd U =>
  ⟨fun vs H Q E ⟨_, n, as, Q1, _, _, h1, _⟩ => (h as n Q1 h1).elim, fun A o s H args us vs Q E _ _ _ _ _ ⟨_, n, as, Q1, _, _, h1, _⟩ => (h as n Q1 h1).elim⟩
theorem c_pieces_step {D : Nat} (T : Txt K mg "_law_pieces" s__law_pieces P__law_pieces) (B : Blt mg) (C__law_pieces : Cal P w K mg base "_law_pieces" P__law_pieces (1 + D) (spL (F_pieces D))) : Cal P w K mg base "_law_pieces" P__law_pieces (1 + D + 1) (spL (F_pieces (D + 1))) := by
  refine T.defL sc__law_pieces (fun as n Q h => by obtain ⟨k, free, ps, rfl, _⟩ := h; rfl) (fun f cdv A o s H E hr hg => ⟨_, (b_cons (s_setL (i := 1) sc__law_pieces.nd rfl (Or.inl rfl) (f_lst a_nil))
  (b_cons (s_for PassesOwn.never rfl (k_seq (K := K) (by rfl) (lv 0)) (g_name (i := 2) sc__law_pieces.nd rfl (Or.inl rfl)) (b_one (s_if (lt_cmp (k_eq (K := K) (by rfl) hr.units) (k_ix (K := K) (by rfl) (lv 2) l_int) l_str (nomark _)) (b_one (s_app (i := 1) (lv 1) (l_tup (a_cons (g_ (k_ix (K := K) (by rfl) (lv 2) l_int)) (a_cons (g_ l_non) a_nil))))) (b_one (s_if (k_tru (K := K) (by rfl) (l_callB (kb_any (K := K) (by rfl) rfl) (by rfl) B.any (by decide +kernel) (a_cons (g_ (k_sl (K := K) (by rfl) (k_ix (K := K) (by rfl) (lv 2) l_int) (o_some l_int) o_none)) a_nil))) (b_one (s_app (i := 1) (lv 1) (l_tup (a_cons (g_ (k_join (K := K) (by rfl) l_str (l_L (f_lc (own := [("_law_some", 3), ("_law_shape", 4)]) rfl sc__law_pieces.nd (ic_ (k_L (K := K) (by rfl) (f_cal C__law_pieces (hr.mono (by omega)) hg (by rfl) (a_cons (g_ (k_ix (K := K) (by rfl) (lv 2) l_int)) a_nil)))) (blkOk_by (own := [("_law_some", 3), ("_law_shape", 4)]) (N := N__law_pieces) (sc := defScope s__law_pieces) (by decide +kernel)) (fun _ _ _ _ _ => (k_tup (n := 2) (K := K) (by rfl) (by rfl) (gs_cons (g_name (i := 3) sc__law_pieces.nd rfl (Or.inl rfl)) (gs_cons (g_name (i := 4) sc__law_pieces.nd rfl (Or.inl rfl)) gs_nil)))) (fun _ _ _ _ _ => ts_nil) (fun _ _ _ _ _ => (lv 3)))))) (a_cons (g_ (k_ix (K := K) (by rfl) (lv 2) l_int)) a_nil))))) (b_one (s_setL (i := 1) sc__law_pieces.nd rfl (Or.inl rfl) (f_add (lv 1) (k_mul (K := K) (by rfl) (l_L (f_cal C__law_pieces (hr.mono (by omega)) hg (by rfl) (a_cons (g_ (k_ix (K := K) (by rfl) (lv 2) l_int)) a_nil))) (k_ix (K := K) (by rfl) (k_ix (K := K) (by rfl) (lv 2) l_int) l_int))))))))))
  (b_one (s_retO (lv 1)))))⟩) (fun as n Q h => ?_)
  obtain ⟨k, free, ps, rfl, hgd, hl, hD, hd3, hq⟩ := h
  simp (config := { maxSteps := 1000000 }) only [diZipC, diZipS, qStr_i, dSeq, dSet, dSetL, dRet, dRetO, dRetL, dIfS, dNext, dApp, dSetIx, dVar, dC, dOp, dFn, dFnL, dCons, dNil, dArg, dArgV, onD, datas, dTup, dLst, dLstL, dOfL, dAddL, dMulL, dIf, dTest, dTru, dNot, dAnd, dOr, dNotV, dAndV, dOrV, dSl, dPart, dNoPart, dCall, dMt, qAdd_i, qAdd_s, qAdd_t, qAdd_l, qSub_i, qDiv_i, qMod_i, qPow_i, qMul_i, qMul_s, qMul_t, qMul_l, qLt_i, qLe_i, qGt_i, qGe_i, qIx_l, qIx_t, qIx_s, qSl_l, qSl_t, qSl_s, qLen_l, qLen_t, qLen_s, qInt_i, qInt_b, qMin_i, qMax_i, qTup_l, qTup_t, qLst_l, qLst_t, qTru_n, qTru_b, qTru_i, qTru_s, qTru_l, qTru_t, qSum_l, qAny_l, qAny_t, qJoin_l, qCount_s, qEq_e, qNe_e, qRepr_e, dAsgT, dNeg, qNeg_i, dgTup, dgCons, dgName, dgNil, dPar, diR1, diOwn, diSeq, diL, diZip, diZipM, diVar, dParL, startS, toS, List.map_cons, List.map_nil, List.length_cons, List.length_nil, List.replicate, List.cons_append, List.nil_append, List.append_nil, List.getElem?_cons_zero, List.getElem?_cons_succ, List.set_cons_zero, List.set_cons_succ, Nat.reduceSub, Nat.reduceAdd, wipeS, canD, if_true, if_false, ite_true, ite_false, Bool.false_eq_true, PyData.bool.injEq, exists_eq_left', exists_eq_left, shp_i, shp_s, shp_b, shp_n, shp_e, shp_z, eqv_tt, eqv_lt, eqv_i, true_and, ix0, ix1, ix2, Option.some.injEq, PyData.tuple.injEq, PyData.list.injEq, PyData.int.injEq, PyData.str.injEq, S.own.injEq]
  refine ⟨Nat.zero_le _, by decide, rfl, ?_⟩
  have take1 : ∀ (i : Nat) (pt : Part), ps[i]? = some pt → (pcsA (ps.take (i + 1))).map pcD = (pcsA (ps.take i)).map pcD ++ (pcs pt).map pcD := fun i pt h => by
    rw [List.take_add_one, h, pcsA_app, List.map_append]
    show _ ++ (pcs pt ++ pcsA []).map pcD = _
    rw [pcsA, List.append_nil]
  have b6 : 6 ^ depAll ps ≤ 216 := Nat.le_trans (pow6 hd3) (by decide)
  obtain ⟨bl, bt⟩ := pcsA_le ps free (depAll ps) hgd (Nat.le_refl _)
  have bm : ps.length * 6 ^ depAll ps ≤ 5 * 216 := Nat.mul_le_mul hl b6
  have btk : ∀ i : Nat, (pcsA (ps.take i)).length ≤ 1080 := fun i => by
    have e := congrArg List.length (pcsA_app (ps.take i) (ps.drop i))
    rw [List.take_append_drop, List.length_append] at e
    omega
  refine ⟨rfl, .inl ?_, fun i ss n' => ∃ s2, isOwn s2 = false ∧ ss = [.d (.tuple (dataAll ps)), .own ((pcsA (ps.take i)).map pcD), s2, .un, .un] ∧ n' = n, ⟨.un, rfl, rfl, rfl⟩, fun i d ss' n' hd ⟨s2, hs, e1, e2⟩ => ?_, fun ss' n' ⟨s2, hs, e1, e2⟩ => ?_⟩
  · simpa [NL] using NL_datas ps
  · subst e1 e2
    replace hd : (dataAll ps)[i]? = some d := hd
    rw [dataAll_map, List.getElem?_map] at hd
    obtain ⟨pt, hp, rfl⟩ := Option.map_eq_some_iff.mp hd
    have hpt : Good k free pt := GoodAll_iff.mp hgd pt (List.mem_of_getElem? hp)
    have hdp : pt.dep ≤ depAll ps := depAll_le.mp (Nat.le_refl _) pt (List.mem_of_getElem? hp)
    have hlt := btk i
    cases pt with
    | text z =>
      simp only [Part.data]
      simp (config := { maxSteps := 1000000 }) only [diZipC, diZipS, qStr_i, dSeq, dSet, dSetL, dRet, dRetO, dRetL, dIfS, dNext, dApp, dSetIx, dVar, dC, dOp, dFn, dFnL, dCons, dNil, dArg, dArgV, onD, datas, dTup, dLst, dLstL, dOfL, dAddL, dMulL, dIf, dTest, dTru, dNot, dAnd, dOr, dNotV, dAndV, dOrV, dSl, dPart, dNoPart, dCall, dMt, qAdd_i, qAdd_s, qAdd_t, qAdd_l, qSub_i, qDiv_i, qMod_i, qPow_i, qMul_i, qMul_s, qMul_t, qMul_l, qLt_i, qLe_i, qGt_i, qGe_i, qIx_l, qIx_t, qIx_s, qSl_l, qSl_t, qSl_s, qLen_l, qLen_t, qLen_s, qInt_i, qInt_b, qMin_i, qMax_i, qTup_l, qTup_t, qLst_l, qLst_t, qTru_n, qTru_b, qTru_i, qTru_s, qTru_l, qTru_t, qSum_l, qAny_l, qAny_t, qJoin_l, qCount_s, qEq_e, qNe_e, qRepr_e, dAsgT, dNeg, qNeg_i, dgTup, dgCons, dgName, dgNil, dPar, diR1, diOwn, diSeq, diL, diZip, diZipM, diVar, dParL, startS, toS, List.map_cons, List.map_nil, List.length_cons, List.length_nil, List.replicate, List.cons_append, List.nil_append, List.append_nil, List.getElem?_cons_zero, List.getElem?_cons_succ, List.set_cons_zero, List.set_cons_succ, Nat.reduceSub, Nat.reduceAdd, wipeS, canD, if_true, if_false, ite_true, ite_false, Bool.false_eq_true, PyData.bool.injEq, exists_eq_left', exists_eq_left, shp_i, shp_s, shp_b, shp_n, shp_e, shp_z, eqv_tt, eqv_lt, eqv_i, true_and, ix0, ix1, ix2, Option.some.injEq, PyData.tuple.injEq, PyData.list.injEq, PyData.int.injEq, PyData.str.injEq, S.own.injEq]
      exact ⟨sz6 (by decide), by rw [List.length_map]; exact Nat.lt_of_le_of_lt hlt (by decide), by rfl, _, rfl, by rw [take1 i _ hp]; rfl, trivial⟩
    | loop f qs =>
      obtain ⟨g1, g2, g3, g4, g5, g6⟩ := hpt
      have hdq : depAll qs + 1 ≤ depAll ps := hdp
      obtain ⟨cl, ct⟩ := pcsA_le qs (free && !isOpen f) 2 g6 (by omega)
      have cl2 : qs.length * 6 ^ 2 ≤ 2 * 36 := Nat.mul_le_mul g5 (by decide)
      have ct2 : qs.length * (4 * 6 ^ 2) ≤ 2 * 144 := Nat.mul_le_mul g5 (by decide)
      simp only [Part.data]
      have hc : cut (fI f) (some 1) none = fI f.tail := by rw [cut_tail, tail_fI]
      have hfm : fmD f = .tuple (fI f) := rfl
      rw [hfm]
      simp (config := { maxSteps := 1000000 }) only [diZipC, diZipS, qStr_i, dSeq, dSet, dSetL, dRet, dRetO, dRetL, dIfS, dNext, dApp, dSetIx, dVar, dC, dOp, dFn, dFnL, dCons, dNil, dArg, dArgV, onD, datas, dTup, dLst, dLstL, dOfL, dAddL, dMulL, dIf, dTest, dTru, dNot, dAnd, dOr, dNotV, dAndV, dOrV, dSl, dPart, dNoPart, dCall, dMt, qAdd_i, qAdd_s, qAdd_t, qAdd_l, qSub_i, qDiv_i, qMod_i, qPow_i, qMul_i, qMul_s, qMul_t, qMul_l, qLt_i, qLe_i, qGt_i, qGe_i, qIx_l, qIx_t, qIx_s, qSl_l, qSl_t, qSl_s, qLen_l, qLen_t, qLen_s, qInt_i, qInt_b, qMin_i, qMax_i, qTup_l, qTup_t, qLst_l, qLst_t, qTru_n, qTru_b, qTru_i, qTru_s, qTru_l, qTru_t, qSum_l, qAny_l, qAny_t, qJoin_l, qCount_s, qEq_e, qNe_e, qRepr_e, dAsgT, dNeg, qNeg_i, dgTup, dgCons, dgName, dgNil, dPar, diR1, diOwn, diSeq, diL, diZip, diZipM, diVar, dParL, startS, toS, List.map_cons, List.map_nil, List.length_cons, List.length_nil, List.replicate, List.cons_append, List.nil_append, List.append_nil, List.getElem?_cons_zero, List.getElem?_cons_succ, List.set_cons_zero, List.set_cons_succ, Nat.reduceSub, Nat.reduceAdd, wipeS, canD, if_true, if_false, ite_true, ite_false, Bool.false_eq_true, PyData.bool.injEq, exists_eq_left', exists_eq_left, shp_i, shp_s, shp_b, shp_n, shp_e, shp_z, eqv_tt, eqv_lt, eqv_i, true_and, ix0, ix1, ix2, Option.some.injEq, PyData.tuple.injEq, PyData.list.injEq, PyData.int.injEq, PyData.str.injEq, S.own.injEq]
      rw [hc, any_fI]
      refine ⟨sc_fI _, ?_⟩
      cases ho : f.tail.any (· != 0) with
      | true =>
        rw [if_pos rfl]
        refine ⟨⟨_, rfl⟩, ?_⟩
        refine lc_map2 ((pcsA qs).map pcD) n' (fun a _ => a) ((pcsA qs).map fun q => (PyData.str q.1, shD q.2)) (by rw [List.map_map]; rfl) rfl (fun R hR => ?_) (by rw [List.length_map]; exact sz6 (by omega)) (fun p hp' => ?_) ?_
        · simp (config := { maxSteps := 1000000 }) only [diZipC, diZipS, qStr_i, dSeq, dSet, dSetL, dRet, dRetO, dRetL, dIfS, dNext, dApp, dSetIx, dVar, dC, dOp, dFn, dFnL, dCons, dNil, dArg, dArgV, onD, datas, dTup, dLst, dLstL, dOfL, dAddL, dMulL, dIf, dTest, dTru, dNot, dAnd, dOr, dNotV, dAndV, dOrV, dSl, dPart, dNoPart, dCall, dMt, qAdd_i, qAdd_s, qAdd_t, qAdd_l, qSub_i, qDiv_i, qMod_i, qPow_i, qMul_i, qMul_s, qMul_t, qMul_l, qLt_i, qLe_i, qGt_i, qGe_i, qIx_l, qIx_t, qIx_s, qSl_l, qSl_t, qSl_s, qLen_l, qLen_t, qLen_s, qInt_i, qInt_b, qMin_i, qMax_i, qTup_l, qTup_t, qLst_l, qLst_t, qTru_n, qTru_b, qTru_i, qTru_s, qTru_l, qTru_t, qSum_l, qAny_l, qAny_t, qJoin_l, qCount_s, qEq_e, qNe_e, qRepr_e, dAsgT, dNeg, qNeg_i, dgTup, dgCons, dgName, dgNil, dPar, diR1, diOwn, diSeq, diL, diZip, diZipM, diVar, dParL, startS, toS, List.map_cons, List.map_nil, List.length_cons, List.length_nil, List.replicate, List.cons_append, List.nil_append, List.append_nil, List.getElem?_cons_zero, List.getElem?_cons_succ, List.set_cons_zero, List.set_cons_succ, Nat.reduceSub, Nat.reduceAdd, wipeS, canD, if_true, if_false, ite_true, ite_false, Bool.false_eq_true, PyData.bool.injEq, exists_eq_left', exists_eq_left, shp_i, shp_s, shp_b, shp_n, shp_e, shp_z, eqv_tt, eqv_lt, eqv_i, true_and, ix0, ix1, ix2, Option.some.injEq, PyData.tuple.injEq, PyData.list.injEq, PyData.int.injEq, PyData.str.injEq, S.own.injEq]
          exact ⟨k, free && !isOpen f, qs, rfl, g6, by omega, by omega, by omega, .inl (NLA_pcs _), hR⟩
        · obtain ⟨q, _, rfl⟩ := List.mem_map.mp hp'
          refine ⟨rfl, fun R hR => ?_⟩
          simp (config := { maxSteps := 1000000 }) only [diZipC, diZipS, qStr_i, dSeq, dSet, dSetL, dRet, dRetO, dRetL, dIfS, dNext, dApp, dSetIx, dVar, dC, dOp, dFn, dFnL, dCons, dNil, dArg, dArgV, onD, datas, dTup, dLst, dLstL, dOfL, dAddL, dMulL, dIf, dTest, dTru, dNot, dAnd, dOr, dNotV, dAndV, dOrV, dSl, dPart, dNoPart, dCall, dMt, qAdd_i, qAdd_s, qAdd_t, qAdd_l, qSub_i, qDiv_i, qMod_i, qPow_i, qMul_i, qMul_s, qMul_t, qMul_l, qLt_i, qLe_i, qGt_i, qGe_i, qIx_l, qIx_t, qIx_s, qSl_l, qSl_t, qSl_s, qLen_l, qLen_t, qLen_s, qInt_i, qInt_b, qMin_i, qMax_i, qTup_l, qTup_t, qLst_l, qLst_t, qTru_n, qTru_b, qTru_i, qTru_s, qTru_l, qTru_t, qSum_l, qAny_l, qAny_t, qJoin_l, qCount_s, qEq_e, qNe_e, qRepr_e, dAsgT, dNeg, qNeg_i, dgTup, dgCons, dgName, dgNil, dPar, diR1, diOwn, diSeq, diL, diZip, diZipM, diVar, dParL, startS, toS, List.map_cons, List.map_nil, List.length_cons, List.length_nil, List.replicate, List.cons_append, List.nil_append, List.append_nil, List.getElem?_cons_zero, List.getElem?_cons_succ, List.set_cons_zero, List.set_cons_succ, Nat.reduceSub, Nat.reduceAdd, wipeS, canD, if_true, if_false, ite_true, ite_false, Bool.false_eq_true, PyData.bool.injEq, exists_eq_left', exists_eq_left, shp_i, shp_s, shp_b, shp_n, shp_e, shp_z, eqv_tt, eqv_lt, eqv_i, true_and, ix0, ix1, ix2, Option.some.injEq, PyData.tuple.injEq, PyData.list.injEq, PyData.int.injEq, PyData.str.injEq, S.own.injEq]
          exact hR
        · rw [List.map_map]
          have ej : (pcsA qs).map ((fun p : PyData × PyData => p.1) ∘ fun q : Pc => (PyData.str q.1, shD q.2)) = ((pcsA qs).map fun q => q.1).map PyData.str := by rw [List.map_map]; rfl
          rw [ej]
          simp (config := { maxSteps := 1000000 }) only [diZipC, diZipS, qStr_i, dSeq, dSet, dSetL, dRet, dRetO, dRetL, dIfS, dNext, dApp, dSetIx, dVar, dC, dOp, dFn, dFnL, dCons, dNil, dArg, dArgV, onD, datas, dTup, dLst, dLstL, dOfL, dAddL, dMulL, dIf, dTest, dTru, dNot, dAnd, dOr, dNotV, dAndV, dOrV, dSl, dPart, dNoPart, dCall, dMt, qAdd_i, qAdd_s, qAdd_t, qAdd_l, qSub_i, qDiv_i, qMod_i, qPow_i, qMul_i, qMul_s, qMul_t, qMul_l, qLt_i, qLe_i, qGt_i, qGe_i, qIx_l, qIx_t, qIx_s, qSl_l, qSl_t, qSl_s, qLen_l, qLen_t, qLen_s, qInt_i, qInt_b, qMin_i, qMax_i, qTup_l, qTup_t, qLst_l, qLst_t, qTru_n, qTru_b, qTru_i, qTru_s, qTru_l, qTru_t, qSum_l, qAny_l, qAny_t, qJoin_l, qCount_s, qEq_e, qNe_e, qRepr_e, dAsgT, dNeg, qNeg_i, dgTup, dgCons, dgName, dgNil, dPar, diR1, diOwn, diSeq, diL, diZip, diZipM, diVar, dParL, startS, toS, List.map_cons, List.map_nil, List.length_cons, List.length_nil, List.replicate, List.cons_append, List.nil_append, List.append_nil, List.getElem?_cons_zero, List.getElem?_cons_succ, List.set_cons_zero, List.set_cons_succ, Nat.reduceSub, Nat.reduceAdd, wipeS, canD, if_true, if_false, ite_true, ite_false, Bool.false_eq_true, PyData.bool.injEq, exists_eq_left', exists_eq_left, shp_i, shp_s, shp_b, shp_n, shp_e, shp_z, eqv_tt, eqv_lt, eqv_i, true_and, ix0, ix1, ix2, Option.some.injEq, PyData.tuple.injEq, PyData.list.injEq, PyData.int.injEq, PyData.str.injEq, S.own.injEq]
          refine ⟨_, rfl, ?_, sz6 (by decide), by rw [List.length_map]; exact Nat.lt_of_le_of_lt hlt (by decide), ?_, S.d (.tuple [.str "loop", .tuple (fI f), .tuple (dataAll qs)]), rfl, ?_, trivial⟩
          · rw [List.map_map]
            show lets (pcsA qs) + _ * 0 ≤ _
            omega
          · simp only [NL, NLA, NLA_fI, Bool.and_self]
          · rw [take1 i _ hp]
            have : pcs (.loop f qs) = [(ofL (catL (pcsA qs)), some f)] := by rw [pcs, if_pos (show isOpen f = true from ho)]
            rw [this, join_cat]
            rfl
      | false =>
        rw [if_neg (by decide)]
        have hf0 : f.headD 0 ≤ 3 := g4 ho
        obtain ⟨a, r, rfl⟩ : ∃ a r, f = a :: r := by
          cases f with
          | nil => simp at g1
          | cons a r => exact ⟨a, r, rfl⟩
        have hf0 : a ≤ 3 := hf0
        have hm : (pcsA qs).length * a ≤ 72 * 3 := Nat.mul_le_mul (by omega) hf0
        have e0 : atI (fI (a :: r)) 0 = some (.int a) := by rw [atI_zero]; rfl
        have pe : pcs (.loop (a :: r) qs) = (List.replicate a (pcsA qs)).flatten := by rw [pcs, if_neg (by rw [show isOpen (a :: r) = false from ho]; decide)]; rfl
        have er : (List.replicate (a : Int).toNat ((pcsA qs).map pcD)).flatten = (pcs (.loop (a :: r) qs)).map pcD := by
          rw [Int.toNat_natCast, pe, List.map_flatten, List.map_replicate]
        have ln : ((pcs (.loop (a :: r) qs)).map pcD).length ≤ 216 := by
          rw [List.length_map, pe, List.length_flatten, List.map_replicate, List.sum_replicate_nat, Nat.mul_comm]
          exact hm
        refine ⟨k, free && !isOpen (a :: r), qs, rfl, g6, by omega, by omega, by omega, _, e0, ?_⟩
        rw [qMul_l, List.length_map, er]
        refine ⟨by omega, by omega, sz6 (by rw [Int.toNat_natCast]; omega), _, _, rfl, rfl, ?_, by decide, ?_, _, rfl, by rw [take1 i _ hp], rfl⟩
        · rw [List.length_map]
          exact sz6 (by omega)
        · rw [← List.map_append]
          exact NLA_pcs _
  · subst e1 e2
    refine ⟨_, rfl, ?_⟩
    have : (ps.take (itemsOf (.tuple (dataAll ps))).length) = ps := by
      show ps.take (dataAll ps).length = ps
      rw [dataAll_map, List.length_map, List.take_length]
    rw [this]
    exact hq
theorem c_pieces (T : Txt K mg "_law_pieces" s__law_pieces P__law_pieces) (B : Blt mg) : ∀ D : Nat, Cal P w K mg base "_law_pieces" P__law_pieces (1 + D) (spL (F_pieces D))
  | 0 => calL_none T fun as n Q ⟨_, _, _, _, _, _, h, _⟩ => absurd h (Nat.not_lt_zero _)
  | D + 1 => c_pieces_step T B (c_pieces T B D)
end
end Law

namespace Law
open PySem PySem.Spec PyProof.Rows L2 Ev
/-- pairs taken apart, those that pass a test, each by a function -/
theorem lc_filt2 {pi : DI} {pt : DT} {pe : DE} {vs : List Nat} {ss : List S} {n : Nat} {Q : DLQ} {j i : Nat} (xs : List PyData) (n1 : Nat) (t : PyData → PyData → Bool) (f : PyData → PyData → PyData) (ps : List (PyData × PyData)) (hx : xs = ps.map fun p => .tuple [p.1, p.2]) (ho : okW ss vs = true) (hpi : ∀ R : List PyData → Nat → Prop, R xs n1 → pi ss n R) (hl : ps.length ≤ sizeLine)
    (ht : ∀ p ∈ ps, ∀ R : Bool → Nat → Prop, R (t p.1 p.2) n1 → pt (((wipeS ss vs).set i (.d p.1)).set j (.d p.2)) n1 R)
    (he : ∀ p ∈ ps, NL (f p.1 p.2) = true ∧ ∀ R : DQ, R (f p.1 p.2) n1 → pe (((wipeS ss vs).set i (.d p.1)).set j (.d p.2)) n1 R) (hq : Q ((ps.filter fun p => t p.1 p.2).map fun p => f p.1 p.2) n1) :
    dLc pi (dgTup 2 (dgCons (dgName i) (dgCons (dgName j) dgNil))) pt pe vs ss n Q := by
  subst hx
  refine ⟨ho, hpi _ ⟨fun i acc n' => acc = ((ps.take i).filter fun p => t p.1 p.2).map (fun p => f p.1 p.2) ∧ n' = n1, ⟨by simp, rfl⟩, fun m d acc n' hd ⟨e1, e2⟩ => ?_, fun acc n' ⟨e1, e2⟩ => ?_⟩⟩
  · subst e1 e2
    rw [List.getElem?_map] at hd
    obtain ⟨p, hp, rfl⟩ := Option.map_eq_some_iff.mp hd
    have hi := (List.getElem?_eq_some_iff.mp hp).1
    obtain ⟨h1, h2⟩ := he p (List.mem_of_getElem? hp)
    refine ⟨_, rfl, rfl, rfl, ht p (List.mem_of_getElem? hp) _ ?_⟩
    have tk : (ps.take (m + 1)).filter (fun p => t p.1 p.2) = (ps.take m).filter (fun p => t p.1 p.2) ++ [p].filter (fun p => t p.1 p.2) := by
      rw [List.take_add_one, hp, List.filter_append] <;> rfl
    cases htp : t p.1 p.2 with
    | true =>
      rw [if_pos rfl]
      refine h2 _ ⟨?_, h1, ?_, rfl⟩
      · rw [List.length_map]
        have := List.length_filter_le (fun p : PyData × PyData => t p.1 p.2) (ps.take m)
        rw [List.length_take] at this
        omega
      · rw [tk, List.map_append, List.filter_cons, if_pos htp] <;> rfl
    | false =>
      rw [if_neg (by decide)]
      refine ⟨?_, rfl⟩
      rw [tk, List.filter_cons, if_neg (by rw [htp]; decide), List.filter_nil, List.append_nil]
  · subst e1 e2
    rw [List.length_map, List.take_length]
    exact hq
theorem le_sum : ∀ {l : List Nat} {x : Nat}, x ∈ l → x ≤ l.sum
  | a :: r, x, h => by
    rw [List.sum_cons]
    rcases List.mem_cons.mp h with e | h
    · omega
    · have := le_sum h; omega
/-! ### small ones -/
def c0 : Option (List Nat) → Nat
  | none => 0
  | some f => f.headD 0
def sz (q : Pc) : Nat := q.1.length * (1 + c0 q.2)
def szA (l : List Pc) : Nat := (l.map sz).sum
def small (ps : List Part) : Bool := decide (szA (pcsA ps) ≤ 290) && decide (((pcsA ps).filter fun q => q.2.isSome).length ≤ 12)
section
variable {P : Program} {w : World} {K : PySem.W.Frag} {mg : Str → Option Value} {base : Heap}
def F_small : DF := fun as n Q => ∃ (k : Nat) (ps : List Part), as = [.d (.tuple (dataAll ps))] ∧ GoodAll k true ps ∧ ps.length ≤ 5 ∧ depAll ps ≤ 3 ∧ Q (.bool (small ps)) n
def fsz : PyData → PyData → PyData
  | .str z, .tuple (.int c :: _) => .int (z.length * (1 + c))
  | .str z, _ => .int (z.length * (1 + 0))
  | _, _ => .none
mutual
theorem pc_ok {k : Nat} : ∀ (p : Part) (free : Bool), Good k free p → ∀ q ∈ pcs p, ∀ f, q.2 = some f → f.length = k + 1 ∧ ∀ x ∈ f, x ≤ 99
  | .text z, _, _, q, hq, f, e => by
    have : q = (z, none) := by simpa [pcs] using hq
    rw [this] at e
    cases e
  | .loop g qs, free, h, q, hq, f, e => by
    unfold pcs at hq
    split at hq
    · have : q = (ofL (catL (pcsA qs)), some g) := by simpa using hq
      rw [this] at e
      cases e
      exact ⟨h.1, h.2.1⟩
    · obtain ⟨l, hl, hq⟩ := List.mem_flatten.mp hq
      rw [List.eq_of_mem_replicate hl] at hq
      exact pcA_ok qs _ h.2.2.2.2.2 q hq f e
theorem pcA_ok {k : Nat} : ∀ (ps : List Part) (free : Bool), GoodAll k free ps → ∀ q ∈ pcsA ps, ∀ f, q.2 = some f → f.length = k + 1 ∧ ∀ x ∈ f, x ≤ 99
  | [], _, _, q, hq, _, _ => by cases hq
  | p :: r, free, h, q, hq, f, e => by
    rcases List.mem_append.mp hq with hq | hq
    · exact pc_ok p free h.1 q hq f e
    · exact pcA_ok r free h.2 q hq f e
end
theorem nat400 {n : Nat} (h : n ≤ 10 ^ 40) : (n : Int).natAbs < 2 ^ 400 := by
  have h2 : (10 : Nat) ^ 40 < 2 ^ 400 := Nat.lt_of_lt_of_le (by decide : (10 : Nat) ^ 40 < 2 ^ 140) (Nat.pow_le_pow_right (by decide) (by decide))
  omega
theorem c_small (T : Txt K mg "_law_is_small" s__law_is_small P__law_is_small) (B : Blt mg) (C__law_pieces : Cal P w K mg base "_law_pieces" P__law_pieces 5 (spL (F_pieces 4))) : Cal P w K mg base "_law_is_small" P__law_is_small 6 (spD F_small) := by
  refine T.def sc__law_is_small (fun as n Q h => by obtain ⟨k, ps, rfl, _⟩ := h; rfl) (fun f cdv A o s H E hr hg => ⟨_, (b_cons (s_setL (i := 1) sc__law_is_small.nd rfl (Or.inl rfl) (f_cal C__law_pieces (hr.mono (by omega)) hg (by rfl) (a_cons (gv 0) a_nil)))
  (b_cons (s_set (i := 2) sc__law_is_small.nd rfl (Or.inl rfl) (l_callB (kb_sum (K := K) (by rfl) rfl) (by rfl) B.sum (by decide +kernel) (a_cons (g_ (l_L (f_lc (own := [("_law_one_here", 3), ("_law_shape", 4)]) rfl sc__law_is_small.nd (ic_own (K := K) (by rfl) (lv 1)) (blkOk_by (own := [("_law_one_here", 3), ("_law_shape", 4)]) (N := N__law_is_small) (sc := defScope s__law_is_small) (by decide +kernel)) (fun _ _ _ _ _ => (k_tup (n := 2) (K := K) (by rfl) (by rfl) (gs_cons (g_name (i := 3) sc__law_is_small.nd rfl (Or.inl rfl)) (gs_cons (g_name (i := 4) sc__law_is_small.nd rfl (Or.inl rfl)) gs_nil)))) (fun _ _ _ _ _ => ts_nil) (fun _ _ _ _ _ => (k_mul (K := K) (by rfl) (l_callB (kb_len (K := K) (by rfl)) (by rfl) B.len (by decide +kernel) (a_cons (gv 3) a_nil)) (k_add (K := K) (by rfl) l_int (l_if (lt_cmp c_isNot (lv 4) l_non (nomark _)) (k_ix (K := K) (by rfl) (lv 4) l_int) l_int))))))) a_nil)))
  (b_one (s_ret (k_and (K := K) (by rfl) (l_cmp c_le (lv 2) l_int (nomark _)) (l_one (l_cmp c_le (l_callB (kb_len (K := K) (by rfl)) (by rfl) B.len (by decide +kernel) (a_cons (g_ (l_L (f_lc (own := [("_law_one_here", 3), ("_law_shape", 4)]) rfl sc__law_is_small.nd (ic_own (K := K) (by rfl) (lv 1)) (blkOk_by (own := [("_law_one_here", 3), ("_law_shape", 4)]) (N := N__law_is_small) (sc := defScope s__law_is_small) (by decide +kernel)) (fun _ _ _ _ _ => (k_tup (n := 2) (K := K) (by rfl) (by rfl) (gs_cons (g_name (i := 3) sc__law_is_small.nd rfl (Or.inl rfl)) (gs_cons (g_name (i := 4) sc__law_is_small.nd rfl (Or.inl rfl)) gs_nil)))) (fun _ _ _ _ _ => (ts_one (lt_cmp c_isNot (lv 4) l_non (nomark _)))) (fun _ _ _ _ _ => l_int)))) a_nil)) l_int (nomark _))))))))⟩) (fun as n Q h => ?_)
  obtain ⟨k, ps, rfl, hgd, hl, hd, hq⟩ := h
  have b6 : 6 ^ depAll ps ≤ 216 := Nat.le_trans (pow6 hd) (by decide)
  obtain ⟨bl, bt⟩ := pcsA_le ps true (depAll ps) hgd (Nat.le_refl _)
  have bm : ps.length * 6 ^ depAll ps ≤ 5 * 216 := Nat.mul_le_mul hl b6
  have bt2 : ps.length * (4 * 6 ^ depAll ps) ≤ 5 * (4 * 216) := Nat.mul_le_mul hl (Nat.mul_le_mul_left _ b6)
  have hcs := pcA_ok ps true hgd
  simp (config := { maxSteps := 1000000 }) only [diZipC, diZipS, qStr_i, dSeq, dSet, dSetL, dRet, dRetO, dRetL, dIfS, dNext, dApp, dSetIx, dVar, dC, dOp, dFn, dFnL, dCons, dNil, dArg, dArgV, onD, datas, dTup, dLst, dLstL, dOfL, dAddL, dMulL, dIf, dTest, dTru, dNot, dAnd, dOr, dNotV, dAndV, dOrV, dSl, dPart, dNoPart, dCall, dMt, qAdd_i, qAdd_s, qAdd_t, qAdd_l, qSub_i, qDiv_i, qMod_i, qPow_i, qMul_i, qMul_s, qMul_t, qMul_l, qLt_i, qLe_i, qGt_i, qGe_i, qIx_l, qIx_t, qIx_s, qSl_l, qSl_t, qSl_s, qLen_l, qLen_t, qLen_s, qInt_i, qInt_b, qMin_i, qMax_i, qTup_l, qTup_t, qLst_l, qLst_t, qTru_n, qTru_b, qTru_i, qTru_s, qTru_l, qTru_t, qSum_l, qAny_l, qAny_t, qJoin_l, qCount_s, qEq_e, qNe_e, qRepr_e, dAsgT, dNeg, qNeg_i, dgTup, dgCons, dgName, dgNil, dPar, diR1, diOwn, diSeq, diL, diZip, diZipM, diVar, dParL, startS, toS, List.map_cons, List.map_nil, List.length_cons, List.length_nil, List.replicate, List.cons_append, List.nil_append, List.append_nil, List.getElem?_cons_zero, List.getElem?_cons_succ, List.set_cons_zero, List.set_cons_succ, Nat.reduceSub, Nat.reduceAdd, wipeS, canD, if_true, if_false, ite_true, ite_false, Bool.false_eq_true, PyData.bool.injEq, exists_eq_left', exists_eq_left, shp_i, shp_s, shp_b, shp_n, shp_e, shp_z, eqv_tt, eqv_lt, eqv_i, true_and, ix0, ix1, ix2, Option.some.injEq, PyData.tuple.injEq, PyData.list.injEq, PyData.int.injEq, PyData.str.injEq, S.own.injEq]
  refine ⟨k, true, ps, rfl, hgd, hl, by omega, hd, by decide, NLA_pcs _, ?_⟩
  have hpl : ∀ q ∈ pcsA ps, q.1.length ≤ 4320 := fun q hq => by
    have : q.1.length ≤ lets (pcsA ps) := le_sum (List.mem_map.mpr ⟨q, hq, rfl⟩)
    omega
  refine lc_map2 ((pcsA ps).map pcD) n fsz ((pcsA ps).map fun q => (PyData.str q.1, shD q.2)) (by rw [List.map_map]; rfl) rfl (fun R hR => ?_) (by rw [List.length_map]; exact sz6 (by omega)) (fun p hp' => ?_) ?_
  · simp (config := { maxSteps := 1000000 }) only [diZipC, diZipS, qStr_i, dSeq, dSet, dSetL, dRet, dRetO, dRetL, dIfS, dNext, dApp, dSetIx, dVar, dC, dOp, dFn, dFnL, dCons, dNil, dArg, dArgV, onD, datas, dTup, dLst, dLstL, dOfL, dAddL, dMulL, dIf, dTest, dTru, dNot, dAnd, dOr, dNotV, dAndV, dOrV, dSl, dPart, dNoPart, dCall, dMt, qAdd_i, qAdd_s, qAdd_t, qAdd_l, qSub_i, qDiv_i, qMod_i, qPow_i, qMul_i, qMul_s, qMul_t, qMul_l, qLt_i, qLe_i, qGt_i, qGe_i, qIx_l, qIx_t, qIx_s, qSl_l, qSl_t, qSl_s, qLen_l, qLen_t, qLen_s, qInt_i, qInt_b, qMin_i, qMax_i, qTup_l, qTup_t, qLst_l, qLst_t, qTru_n, qTru_b, qTru_i, qTru_s, qTru_l, qTru_t, qSum_l, qAny_l, qAny_t, qJoin_l, qCount_s, qEq_e, qNe_e, qRepr_e, dAsgT, dNeg, qNeg_i, dgTup, dgCons, dgName, dgNil, dPar, diR1, diOwn, diSeq, diL, diZip, diZipM, diVar, dParL, startS, toS, List.map_cons, List.map_nil, List.length_cons, List.length_nil, List.replicate, List.cons_append, List.nil_append, List.append_nil, List.getElem?_cons_zero, List.getElem?_cons_succ, List.set_cons_zero, List.set_cons_succ, Nat.reduceSub, Nat.reduceAdd, wipeS, canD, if_true, if_false, ite_true, ite_false, Bool.false_eq_true, PyData.bool.injEq, exists_eq_left', exists_eq_left, shp_i, shp_s, shp_b, shp_n, shp_e, shp_z, eqv_tt, eqv_lt, eqv_i, true_and, ix0, ix1, ix2, Option.some.injEq, PyData.tuple.injEq, PyData.list.injEq, PyData.int.injEq, PyData.str.injEq, S.own.injEq]
    exact hR
  · obtain ⟨q, hq, rfl⟩ := List.mem_map.mp hp'
    obtain ⟨z, o⟩ := q
    have hq1 : z.length ≤ 4320 := hpl _ hq
    cases o with
    | none =>
      refine ⟨rfl, fun R hR => ?_⟩
      simp (config := { maxSteps := 1000000 }) only [diZipC, diZipS, qStr_i, dSeq, dSet, dSetL, dRet, dRetO, dRetL, dIfS, dNext, dApp, dSetIx, dVar, dC, dOp, dFn, dFnL, dCons, dNil, dArg, dArgV, onD, datas, dTup, dLst, dLstL, dOfL, dAddL, dMulL, dIf, dTest, dTru, dNot, dAnd, dOr, dNotV, dAndV, dOrV, dSl, dPart, dNoPart, dCall, dMt, qAdd_i, qAdd_s, qAdd_t, qAdd_l, qSub_i, qDiv_i, qMod_i, qPow_i, qMul_i, qMul_s, qMul_t, qMul_l, qLt_i, qLe_i, qGt_i, qGe_i, qIx_l, qIx_t, qIx_s, qSl_l, qSl_t, qSl_s, qLen_l, qLen_t, qLen_s, qInt_i, qInt_b, qMin_i, qMax_i, qTup_l, qTup_t, qLst_l, qLst_t, qTru_n, qTru_b, qTru_i, qTru_s, qTru_l, qTru_t, qSum_l, qAny_l, qAny_t, qJoin_l, qCount_s, qEq_e, qNe_e, qRepr_e, dAsgT, dNeg, qNeg_i, dgTup, dgCons, dgName, dgNil, dPar, diR1, diOwn, diSeq, diL, diZip, diZipM, diVar, dParL, startS, toS, List.map_cons, List.map_nil, List.length_cons, List.length_nil, List.replicate, List.cons_append, List.nil_append, List.append_nil, List.getElem?_cons_zero, List.getElem?_cons_succ, List.set_cons_zero, List.set_cons_succ, Nat.reduceSub, Nat.reduceAdd, wipeS, canD, if_true, if_false, ite_true, ite_false, Bool.false_eq_true, PyData.bool.injEq, exists_eq_left', exists_eq_left, shp_i, shp_s, shp_b, shp_n, shp_e, shp_z, eqv_tt, eqv_lt, eqv_i, true_and, ix0, ix1, ix2, Option.some.injEq, PyData.tuple.injEq, PyData.list.injEq, PyData.int.injEq, PyData.str.injEq, S.own.injEq]
      exact ⟨sz6 (by omega), _, rfl, cmulW (nat400 (by omega)) (by decide), hR⟩
    | some f =>
      obtain ⟨f1, f2⟩ := hcs (z, some f) hq f rfl
      obtain ⟨a, r, rfl⟩ : ∃ a r, f = a :: r := by
        cases f with
        | nil => simp at f1
        | cons a r => exact ⟨a, r, rfl⟩
      have ha : a ≤ 99 := f2 a List.mem_cons_self
      refine ⟨rfl, fun R hR => ?_⟩
      have e0 : shD (some (a :: r)) = .tuple (.int (a : Int) :: fI r) := rfl
      rw [e0] at hR ⊢
      simp (config := { maxSteps := 1000000 }) only [diZipC, diZipS, qStr_i, dSeq, dSet, dSetL, dRet, dRetO, dRetL, dIfS, dNext, dApp, dSetIx, dVar, dC, dOp, dFn, dFnL, dCons, dNil, dArg, dArgV, onD, datas, dTup, dLst, dLstL, dOfL, dAddL, dMulL, dIf, dTest, dTru, dNot, dAnd, dOr, dNotV, dAndV, dOrV, dSl, dPart, dNoPart, dCall, dMt, qAdd_i, qAdd_s, qAdd_t, qAdd_l, qSub_i, qDiv_i, qMod_i, qPow_i, qMul_i, qMul_s, qMul_t, qMul_l, qLt_i, qLe_i, qGt_i, qGe_i, qIx_l, qIx_t, qIx_s, qSl_l, qSl_t, qSl_s, qLen_l, qLen_t, qLen_s, qInt_i, qInt_b, qMin_i, qMax_i, qTup_l, qTup_t, qLst_l, qLst_t, qTru_n, qTru_b, qTru_i, qTru_s, qTru_l, qTru_t, qSum_l, qAny_l, qAny_t, qJoin_l, qCount_s, qEq_e, qNe_e, qRepr_e, dAsgT, dNeg, qNeg_i, dgTup, dgCons, dgName, dgNil, dPar, diR1, diOwn, diSeq, diL, diZip, diZipM, diVar, dParL, startS, toS, List.map_cons, List.map_nil, List.length_cons, List.length_nil, List.replicate, List.cons_append, List.nil_append, List.append_nil, List.getElem?_cons_zero, List.getElem?_cons_succ, List.set_cons_zero, List.set_cons_succ, Nat.reduceSub, Nat.reduceAdd, wipeS, canD, if_true, if_false, ite_true, ite_false, Bool.false_eq_true, PyData.bool.injEq, exists_eq_left', exists_eq_left, shp_i, shp_s, shp_b, shp_n, shp_e, shp_z, eqv_tt, eqv_lt, eqv_i, true_and, ix0, ix1, ix2, Option.some.injEq, PyData.tuple.injEq, PyData.list.injEq, PyData.int.injEq, PyData.str.injEq, S.own.injEq]
      refine ⟨sz6 (by omega), _, rfl, cmulW (nat400 (by omega)) ?_, hR⟩
      have : (1 : Int) + (a : Int) = ((1 + a : Nat) : Int) := by omega
      rw [this]
      exact nat400 (by omega)
  · have es : List.map (fun p => fsz p.fst p.snd) (List.map (fun q => (PyData.str q.fst, shD q.snd)) (pcsA ps)) = List.map PyData.int ((pcsA ps).map fun q => (sz q : Int)) := by
      rw [List.map_map, List.map_map]
      refine List.map_congr_left fun q hq => ?_
      obtain ⟨z, o⟩ := q
      cases o with
      | none => show PyData.int ((z.length : Int) * (1 + 0)) = PyData.int ((z.length * (1 + 0) : Nat) : Int); simp
      | some f =>
        obtain ⟨f1, f2⟩ := hcs (z, some f) hq f rfl
        cases f with
        | nil => simp at f1
        | cons a r => show PyData.int ((z.length : Int) * (1 + (a : Int))) = PyData.int ((z.length * (1 + a) : Nat) : Int); simp
    have esum : ((pcsA ps).map fun q => (sz q : Int)).sum = (szA (pcsA ps) : Int) := by
      unfold szA
      induction pcsA ps with
      | nil => rfl
      | cons q r ih => rw [List.map_cons, List.sum_cons, List.map_cons, List.sum_cons, ih]; omega
    refine ⟨_, es, .inl rfl, ?_⟩
    rw [esum]
    by_cases h1 : (szA (pcsA ps) : Int) ≤ 290
    · rw [decide_eq_true h1, if_pos rfl]
      have h1' : szA (pcsA ps) ≤ 290 := by omega
      refine lc_filt2 ((pcsA ps).map pcD) n (fun _ o => match o with | .none => false | _ => true) (fun _ _ => .int 1) ((pcsA ps).map fun q => (PyData.str q.1, shD q.2)) (by rw [List.map_map]; rfl) rfl (fun R hR => ?_) (by rw [List.length_map]; exact sz6 (by omega)) (fun p hp' R hR => ?_) (fun p _ => ⟨rfl, fun R hR => hR⟩) ?_
      · simp (config := { maxSteps := 1000000 }) only [diZipC, diZipS, qStr_i, dSeq, dSet, dSetL, dRet, dRetO, dRetL, dIfS, dNext, dApp, dSetIx, dVar, dC, dOp, dFn, dFnL, dCons, dNil, dArg, dArgV, onD, datas, dTup, dLst, dLstL, dOfL, dAddL, dMulL, dIf, dTest, dTru, dNot, dAnd, dOr, dNotV, dAndV, dOrV, dSl, dPart, dNoPart, dCall, dMt, qAdd_i, qAdd_s, qAdd_t, qAdd_l, qSub_i, qDiv_i, qMod_i, qPow_i, qMul_i, qMul_s, qMul_t, qMul_l, qLt_i, qLe_i, qGt_i, qGe_i, qIx_l, qIx_t, qIx_s, qSl_l, qSl_t, qSl_s, qLen_l, qLen_t, qLen_s, qInt_i, qInt_b, qMin_i, qMax_i, qTup_l, qTup_t, qLst_l, qLst_t, qTru_n, qTru_b, qTru_i, qTru_s, qTru_l, qTru_t, qSum_l, qAny_l, qAny_t, qJoin_l, qCount_s, qEq_e, qNe_e, qRepr_e, dAsgT, dNeg, qNeg_i, dgTup, dgCons, dgName, dgNil, dPar, diR1, diOwn, diSeq, diL, diZip, diZipM, diVar, dParL, startS, toS, List.map_cons, List.map_nil, List.length_cons, List.length_nil, List.replicate, List.cons_append, List.nil_append, List.append_nil, List.getElem?_cons_zero, List.getElem?_cons_succ, List.set_cons_zero, List.set_cons_succ, Nat.reduceSub, Nat.reduceAdd, wipeS, canD, if_true, if_false, ite_true, ite_false, Bool.false_eq_true, PyData.bool.injEq, exists_eq_left', exists_eq_left, shp_i, shp_s, shp_b, shp_n, shp_e, shp_z, eqv_tt, eqv_lt, eqv_i, true_and, ix0, ix1, ix2, Option.some.injEq, PyData.tuple.injEq, PyData.list.injEq, PyData.int.injEq, PyData.str.injEq, S.own.injEq]
        exact hR
      · obtain ⟨q, hq, rfl⟩ := List.mem_map.mp hp'
        simp (config := { maxSteps := 1000000 }) only [diZipC, diZipS, qStr_i, dSeq, dSet, dSetL, dRet, dRetO, dRetL, dIfS, dNext, dApp, dSetIx, dVar, dC, dOp, dFn, dFnL, dCons, dNil, dArg, dArgV, onD, datas, dTup, dLst, dLstL, dOfL, dAddL, dMulL, dIf, dTest, dTru, dNot, dAnd, dOr, dNotV, dAndV, dOrV, dSl, dPart, dNoPart, dCall, dMt, qAdd_i, qAdd_s, qAdd_t, qAdd_l, qSub_i, qDiv_i, qMod_i, qPow_i, qMul_i, qMul_s, qMul_t, qMul_l, qLt_i, qLe_i, qGt_i, qGe_i, qIx_l, qIx_t, qIx_s, qSl_l, qSl_t, qSl_s, qLen_l, qLen_t, qLen_s, qInt_i, qInt_b, qMin_i, qMax_i, qTup_l, qTup_t, qLst_l, qLst_t, qTru_n, qTru_b, qTru_i, qTru_s, qTru_l, qTru_t, qSum_l, qAny_l, qAny_t, qJoin_l, qCount_s, qEq_e, qNe_e, qRepr_e, dAsgT, dNeg, qNeg_i, dgTup, dgCons, dgName, dgNil, dPar, diR1, diOwn, diSeq, diL, diZip, diZipM, diVar, dParL, startS, toS, List.map_cons, List.map_nil, List.length_cons, List.length_nil, List.replicate, List.cons_append, List.nil_append, List.append_nil, List.getElem?_cons_zero, List.getElem?_cons_succ, List.set_cons_zero, List.set_cons_succ, Nat.reduceSub, Nat.reduceAdd, wipeS, canD, if_true, if_false, ite_true, ite_false, Bool.false_eq_true, PyData.bool.injEq, exists_eq_left', exists_eq_left, shp_i, shp_s, shp_b, shp_n, shp_e, shp_z, eqv_tt, eqv_lt, eqv_i, true_and, ix0, ix1, ix2, Option.some.injEq, PyData.tuple.injEq, PyData.list.injEq, PyData.int.injEq, PyData.str.injEq, S.own.injEq]
        obtain ⟨z, o⟩ := q
        cases o with
        | none => exact ⟨_, rfl, hR⟩
        | some f => exact ⟨_, rfl, hR⟩
      · have el : (((pcsA ps).map fun q => (PyData.str q.1, shD q.2)).filter fun p => match p.2 with | .none => false | _ => true).length = ((pcsA ps).filter fun q => q.2.isSome).length := by
          rw [List.filter_map, List.length_map]
          congr 1
          refine List.filter_congr fun q _ => ?_
          obtain ⟨z, o⟩ := q
          cases o <;> rfl
        have eb : small ps = decide ((((((pcsA ps).map fun q => (PyData.str q.1, shD q.2)).filter fun p => match p.2 with | .none => false | _ => true).map fun _ => PyData.int 1).length : Int) ≤ 12) := by
          rw [List.length_map, el]
          unfold small
          rw [decide_eq_true h1', Bool.true_and]
          by_cases h2 : ((pcsA ps).filter fun q => q.2.isSome).length ≤ 12
          · rw [decide_eq_true h2, decide_eq_true (by omega)]
          · rw [decide_eq_false h2, decide_eq_false (by omega)]
        rw [eb] at hq
        exact hq
    · have h1' : ¬ szA (pcsA ps) ≤ 290 := by omega
      rw [decide_eq_false h1, if_neg (by decide)]
      have eb : small ps = false := by unfold small; rw [decide_eq_false h1', Bool.false_and]
      rw [eb] at hq
      exact hq
end
end Law

namespace Law
open PySem PySem.Spec PyProof.Rows L2 Ev
/-! ### zipped forms -/
theorem zip_fI : ∀ (f c : List Nat), zipD (fI f) (fI c) = (List.zipWith (fun (a b : Nat) => (PyData.int (a : Int), PyData.int (b : Int))) f c).map fun p => .tuple [p.1, p.2]
  | [], _ => by simp [zipD]
  | _ :: _, [] => by simp [zipD]
  | a :: f, b :: c => by
    have ih := zip_fI f c
    unfold zipD at ih ⊢
    simp only [List.map_cons, List.zipWith_cons_cons, ih]
theorem sum_nat : ∀ l : List Nat, (l.map fun (x : Nat) => (x : Int)).sum = (l.sum : Int)
  | [] => rfl
  | a :: r => by rw [List.map_cons, List.sum_cons, List.sum_cons, sum_nat r, Int.natCast_add]
theorem mem_zip {β : Type} {g : Nat → Nat → β} : ∀ {r c : List Nat} {p : β}, p ∈ List.zipWith g r c → ∃ x y, x ∈ r ∧ y ∈ c ∧ p = g x y
  | [], _, _, h => by simp at h
  | _ :: _, [], _, h => by simp at h
  | a :: r, b :: c, p, h => by
    rw [List.zipWith_cons_cons] at h
    rcases List.mem_cons.mp h with e | h
    · exact ⟨a, b, List.mem_cons_self, List.mem_cons_self, e⟩
    · obtain ⟨x, y, h1, h2, h3⟩ := mem_zip h
      exact ⟨x, y, List.mem_cons_of_mem _ h1, List.mem_cons_of_mem _ h2, h3⟩
end Law

namespace Law
open PySem PySem.Spec PyProof.Rows L2 Ev
/-! ### programs drawn -/
def val (f c : List Nat) : Nat := f.headD 0 + (List.zipWith (· * ·) f.tail c).sum
theorem dropLast_data (ps : List Part) : (dataAll ps).dropLast = dataAll ps.dropLast := by rw [dataAll_map, dataAll_map, List.map_dropLast]
theorem cut_last {α : Type} (xs : List α) : cut xs none (some (-1)) = xs.dropLast := by
  unfold cut
  rw [HT.sIx_none xs.length 0, List.drop_zero, Nat.sub_zero]
  have : HT.sIx xs.length xs.length (some (-1)) = xs.length - 1 := by
    show (if (-1 : Int) < 0 then ((-1 : Int) + (xs.length : Int)).toNat else min ((-1 : Int).toNat) xs.length) = xs.length - 1
    rw [if_pos (by decide)]
    omega
  rw [this, List.dropLast_eq_take]
theorem good_dropLast {k : Nat} {free : Bool} {ps : List Part} (h : GoodAll k free ps) : GoodAll k free ps.dropLast := GoodAll_iff.mpr fun p hp => GoodAll_iff.mp h p (List.dropLast_subset ps hp)
theorem dep_dropLast {d : Nat} {ps : List Part} (h : depAll ps ≤ d) : depAll ps.dropLast ≤ d := depAll_le.mpr fun p hp => depAll_le.mp h p (List.dropLast_subset ps hp)
section
variable {P : Program} {w : World} {K : PySem.W.Frag} {mg : Str → Option Value} {base : Heap}
def F_program : DF := fun as n Q => ∃ k : Nat, as = [.dk, .d (.int k)] ∧ k ≤ 3 ∧ n < 1000000 ∧ ∀ (ps : List Part) n', GoodAll k true ps → ps.length ≤ 5 → depAll ps ≤ 3 → small ps = true → n ≤ n' → n' ≤ n + 8000 → Q (.tuple [.int k, .tuple (dataAll ps)]) n'
theorem c_program (T : Txt K mg "_law_program" s__law_program P__law_program) (B : Blt mg) (C__law_draw : Cal P w K mg base "_law_draw" P__law_draw 1 (spD F_draw)) (C__law_part : Cal P w K mg base "_law_part" P__law_part 7 (spD (F_part 4)))
    (C__law_is_small : Cal P w K mg base "_law_is_small" P__law_is_small 6 (spD F_small)) : Cal P w K mg base "_law_program" P__law_program 8 (spD F_program) := by
  refine T.def sc__law_program (fun as n Q h => by obtain ⟨k, rfl, _⟩ := h; rfl) (fun f cdv A o s H E hr hg => ⟨_, (b_cons (s_set (i := 2) sc__law_program.nd rfl (Or.inl rfl) (l_callT (kb_tuple (K := K) (by rfl)) (by rfl) B.tuple (by decide +kernel) (a_cons (g_ (l_L (f_lc (own := [("_law_turn", 3)]) rfl sc__law_program.nd (ic_ (i_range1 (by rfl) B.range (a_cons (g_ (k_add (K := K) (by rfl) l_int (l_cal C__law_draw (hr.mono (by omega)) hg (by rfl) (a_cons (gv 0) (a_cons (g_ l_int) a_nil))))) a_nil))) (blkOk_by (own := [("_law_turn", 3)]) (N := N__law_program) (sc := defScope s__law_program) (by decide +kernel)) (fun _ _ _ _ _ => (g_name (i := 3) sc__law_program.nd rfl (Or.inl rfl))) (fun _ _ _ _ _ => ts_nil) (fun _ _ _ _ _ => (l_cal C__law_part (hr.mono (by omega)) hg (by rfl) (a_cons (gv 0) (a_cons (gv 1) (a_cons (g_ l_int) (a_cons (g_ l_bl) a_nil))))))))) a_nil)))
  (b_cons (s_while PassesOwn.never (lt_not (k_tru (K := K) (by rfl) (l_cal C__law_is_small (hr.mono (by omega)) hg (by rfl) (a_cons (gv 2) a_nil)))) (b_one (s_set (i := 2) sc__law_program.nd rfl (Or.inl rfl) (k_sl (K := K) (by rfl) (lv 2) o_none (o_some (l_neg l_int))))))
  (b_one (s_ret (l_tup (a_cons (gv 1) (a_cons (gv 2) a_nil)))))))⟩) (fun as n Q h => ?_)
  obtain ⟨k, rfl, hk, hn, hq⟩ := h
  simp (config := { maxSteps := 1000000 }) only [diZipC, diZipS, qStr_i, dSeq, dSet, dSetL, dRet, dRetO, dRetL, dIfS, dNext, dApp, dSetIx, dVar, dC, dOp, dFn, dFnL, dCons, dNil, dArg, dArgV, onD, datas, dTup, dLst, dLstL, dOfL, dAddL, dMulL, dIf, dTest, dTru, dNot, dAnd, dOr, dNotV, dAndV, dOrV, dSl, dPart, dNoPart, dCall, dMt, qAdd_i, qAdd_s, qAdd_t, qAdd_l, qSub_i, qDiv_i, qMod_i, qPow_i, qMul_i, qMul_s, qMul_t, qMul_l, qLt_i, qLe_i, qGt_i, qGe_i, qIx_l, qIx_t, qIx_s, qSl_l, qSl_t, qSl_s, qLen_l, qLen_t, qLen_s, qInt_i, qInt_b, qMin_i, qMax_i, qTup_l, qTup_t, qLst_l, qLst_t, qTru_n, qTru_b, qTru_i, qTru_s, qTru_l, qTru_t, qSum_l, qAny_l, qAny_t, qJoin_l, qCount_s, qEq_e, qNe_e, qRepr_e, dAsgT, dNeg, qNeg_i, dgTup, dgCons, dgName, dgNil, dPar, diR1, diOwn, diSeq, diL, diZip, diZipM, diVar, dParL, startS, toS, List.map_cons, List.map_nil, List.length_cons, List.length_nil, List.replicate, List.cons_append, List.nil_append, List.append_nil, List.getElem?_cons_zero, List.getElem?_cons_succ, List.set_cons_zero, List.set_cons_succ, Nat.reduceSub, Nat.reduceAdd, wipeS, canD, if_true, if_false, ite_true, ite_false, Bool.false_eq_true, PyData.bool.injEq, exists_eq_left', exists_eq_left, shp_i, shp_s, shp_b, shp_n, shp_e, shp_z, eqv_tt, eqv_lt, eqv_i, true_and, ix0, ix1, ix2, Option.some.injEq, PyData.tuple.injEq, PyData.list.injEq, PyData.int.injEq, PyData.str.injEq, S.own.injEq]
  refine lc_draw (fun xs n2 => xs.length ≤ 5 ∧ n2 = n + 1) (cost 3) (fun y => ∃ pt : Part, y = pt.data ∧ Good k true pt ∧ pt.dep ≤ 3) rfl (fun R hR => ?_) (fun y ⟨pt, e, _⟩ => by rw [e]; exact NL_data pt) (fun xs n2 ⟨g1, g2⟩ => ⟨sz6 (by omega), fun d' hd n' e1 e2 R hR => ?_, fun acc n' a1 a2 a3 a4 => ?_⟩)
  · simp (config := { maxSteps := 1000000 }) only [diZipC, diZipS, qStr_i, dSeq, dSet, dSetL, dRet, dRetO, dRetL, dIfS, dNext, dApp, dSetIx, dVar, dC, dOp, dFn, dFnL, dCons, dNil, dArg, dArgV, onD, datas, dTup, dLst, dLstL, dOfL, dAddL, dMulL, dIf, dTest, dTru, dNot, dAnd, dOr, dNotV, dAndV, dOrV, dSl, dPart, dNoPart, dCall, dMt, qAdd_i, qAdd_s, qAdd_t, qAdd_l, qSub_i, qDiv_i, qMod_i, qPow_i, qMul_i, qMul_s, qMul_t, qMul_l, qLt_i, qLe_i, qGt_i, qGe_i, qIx_l, qIx_t, qIx_s, qSl_l, qSl_t, qSl_s, qLen_l, qLen_t, qLen_s, qInt_i, qInt_b, qMin_i, qMax_i, qTup_l, qTup_t, qLst_l, qLst_t, qTru_n, qTru_b, qTru_i, qTru_s, qTru_l, qTru_t, qSum_l, qAny_l, qAny_t, qJoin_l, qCount_s, qEq_e, qNe_e, qRepr_e, dAsgT, dNeg, qNeg_i, dgTup, dgCons, dgName, dgNil, dPar, diR1, diOwn, diSeq, diL, diZip, diZipM, diVar, dParL, startS, toS, List.map_cons, List.map_nil, List.length_cons, List.length_nil, List.replicate, List.cons_append, List.nil_append, List.append_nil, List.getElem?_cons_zero, List.getElem?_cons_succ, List.set_cons_zero, List.set_cons_succ, Nat.reduceSub, Nat.reduceAdd, wipeS, canD, if_true, if_false, ite_true, ite_false, Bool.false_eq_true, PyData.bool.injEq, exists_eq_left', exists_eq_left, shp_i, shp_s, shp_b, shp_n, shp_e, shp_z, eqv_tt, eqv_lt, eqv_i, true_and, ix0, ix1, ix2, Option.some.injEq, PyData.tuple.injEq, PyData.list.injEq, PyData.int.injEq, PyData.str.injEq, S.own.injEq]
    refine use_draw (by decide) (by decide) (by omega) fun r hr => q_add ⟨_, rfl, by omega, by omega, hR _ _ ⟨?_, rfl⟩⟩
    simp [rangeD]; omega
  · have hb : cost 3 * xs.length ≤ cost 3 * 5 := Nat.mul_le_mul_left _ g1
    have hc3 : cost 3 = 750 := rfl
    simp (config := { maxSteps := 1000000 }) only [diZipC, diZipS, qStr_i, dSeq, dSet, dSetL, dRet, dRetO, dRetL, dIfS, dNext, dApp, dSetIx, dVar, dC, dOp, dFn, dFnL, dCons, dNil, dArg, dArgV, onD, datas, dTup, dLst, dLstL, dOfL, dAddL, dMulL, dIf, dTest, dTru, dNot, dAnd, dOr, dNotV, dAndV, dOrV, dSl, dPart, dNoPart, dCall, dMt, qAdd_i, qAdd_s, qAdd_t, qAdd_l, qSub_i, qDiv_i, qMod_i, qPow_i, qMul_i, qMul_s, qMul_t, qMul_l, qLt_i, qLe_i, qGt_i, qGe_i, qIx_l, qIx_t, qIx_s, qSl_l, qSl_t, qSl_s, qLen_l, qLen_t, qLen_s, qInt_i, qInt_b, qMin_i, qMax_i, qTup_l, qTup_t, qLst_l, qLst_t, qTru_n, qTru_b, qTru_i, qTru_s, qTru_l, qTru_t, qSum_l, qAny_l, qAny_t, qJoin_l, qCount_s, qEq_e, qNe_e, qRepr_e, dAsgT, dNeg, qNeg_i, dgTup, dgCons, dgName, dgNil, dPar, diR1, diOwn, diSeq, diL, diZip, diZipM, diVar, dParL, startS, toS, List.map_cons, List.map_nil, List.length_cons, List.length_nil, List.replicate, List.cons_append, List.nil_append, List.append_nil, List.getElem?_cons_zero, List.getElem?_cons_succ, List.set_cons_zero, List.set_cons_succ, Nat.reduceSub, Nat.reduceAdd, wipeS, canD, if_true, if_false, ite_true, ite_false, Bool.false_eq_true, PyData.bool.injEq, exists_eq_left', exists_eq_left, shp_i, shp_s, shp_b, shp_n, shp_e, shp_z, eqv_tt, eqv_lt, eqv_i, true_and, ix0, ix1, ix2, Option.some.injEq, PyData.tuple.injEq, PyData.list.injEq, PyData.int.injEq, PyData.str.injEq, S.own.injEq]
    exact ⟨k, 3, true, rfl, hk, by omega, by omega, by omega, fun pt n3 p1 p2 p3 p4 => hR _ _ ⟨pt, rfl, p1, p2⟩ p3 p4⟩
  · have hb : cost 3 * xs.length ≤ cost 3 * 5 := Nat.mul_le_mul_left _ g1
    have hc3 : cost 3 = 750 := rfl
    obtain ⟨ps, rfl, hps⟩ : ∃ ps : List Part, acc = dataAll ps ∧ ∀ p ∈ ps, Good k true p ∧ p.dep ≤ 3 := by
      clear a1 a4
      induction acc with
      | nil => exact ⟨[], rfl, fun y hy => by cases hy⟩
      | cons y r ih =>
        obtain ⟨pt, rfl, p1, p2⟩ := a2 y List.mem_cons_self
        obtain ⟨ps, rfl, h3⟩ := ih fun z hz => a2 z (List.mem_cons_of_mem _ hz)
        exact ⟨pt :: ps, rfl, fun z hz => (List.mem_cons.mp hz).elim (fun e => by rw [e]; exact ⟨p1, p2⟩) (h3 z)⟩
    have hl : ps.length ≤ 5 := by
      rw [dataAll_map, List.length_map] at a1
      omega
    refine ⟨.inl (by simpa [NL] using NL_datas ps), ?_⟩
    refine ⟨fun m ss n3 => ∃ qs : List Part, m = qs.length ∧ ss = [.dk, .d (.int k), .d (.tuple (dataAll qs)), .un] ∧ n3 = n' ∧ GoodAll k true qs ∧ qs.length ≤ 5 ∧ depAll qs ≤ 3,
      ⟨_, ps, rfl, rfl, rfl, GoodAll_iff.mpr fun p hp => (hps p hp).1, hl, depAll_le.mpr fun p hp => (hps p hp).2⟩, fun m ss n3 ⟨qs, e1, e2, e3, g1, g2, g3⟩ => ?_⟩
    subst e1 e2 e3
    simp (config := { maxSteps := 1000000 }) only [diZipC, diZipS, qStr_i, dSeq, dSet, dSetL, dRet, dRetO, dRetL, dIfS, dNext, dApp, dSetIx, dVar, dC, dOp, dFn, dFnL, dCons, dNil, dArg, dArgV, onD, datas, dTup, dLst, dLstL, dOfL, dAddL, dMulL, dIf, dTest, dTru, dNot, dAnd, dOr, dNotV, dAndV, dOrV, dSl, dPart, dNoPart, dCall, dMt, qAdd_i, qAdd_s, qAdd_t, qAdd_l, qSub_i, qDiv_i, qMod_i, qPow_i, qMul_i, qMul_s, qMul_t, qMul_l, qLt_i, qLe_i, qGt_i, qGe_i, qIx_l, qIx_t, qIx_s, qSl_l, qSl_t, qSl_s, qLen_l, qLen_t, qLen_s, qInt_i, qInt_b, qMin_i, qMax_i, qTup_l, qTup_t, qLst_l, qLst_t, qTru_n, qTru_b, qTru_i, qTru_s, qTru_l, qTru_t, qSum_l, qAny_l, qAny_t, qJoin_l, qCount_s, qEq_e, qNe_e, qRepr_e, dAsgT, dNeg, qNeg_i, dgTup, dgCons, dgName, dgNil, dPar, diR1, diOwn, diSeq, diL, diZip, diZipM, diVar, dParL, startS, toS, List.map_cons, List.map_nil, List.length_cons, List.length_nil, List.replicate, List.cons_append, List.nil_append, List.append_nil, List.getElem?_cons_zero, List.getElem?_cons_succ, List.set_cons_zero, List.set_cons_succ, Nat.reduceSub, Nat.reduceAdd, wipeS, canD, if_true, if_false, ite_true, ite_false, Bool.false_eq_true, PyData.bool.injEq, exists_eq_left', exists_eq_left, shp_i, shp_s, shp_b, shp_n, shp_e, shp_z, eqv_tt, eqv_lt, eqv_i, true_and, ix0, ix1, ix2, Option.some.injEq, PyData.tuple.injEq, PyData.list.injEq, PyData.int.injEq, PyData.str.injEq, S.own.injEq]
    refine ⟨k, qs, rfl, g1, g2, g3, ?_⟩
    simp (config := { maxSteps := 1000000 }) only [diZipC, diZipS, qStr_i, dSeq, dSet, dSetL, dRet, dRetO, dRetL, dIfS, dNext, dApp, dSetIx, dVar, dC, dOp, dFn, dFnL, dCons, dNil, dArg, dArgV, onD, datas, dTup, dLst, dLstL, dOfL, dAddL, dMulL, dIf, dTest, dTru, dNot, dAnd, dOr, dNotV, dAndV, dOrV, dSl, dPart, dNoPart, dCall, dMt, qAdd_i, qAdd_s, qAdd_t, qAdd_l, qSub_i, qDiv_i, qMod_i, qPow_i, qMul_i, qMul_s, qMul_t, qMul_l, qLt_i, qLe_i, qGt_i, qGe_i, qIx_l, qIx_t, qIx_s, qSl_l, qSl_t, qSl_s, qLen_l, qLen_t, qLen_s, qInt_i, qInt_b, qMin_i, qMax_i, qTup_l, qTup_t, qLst_l, qLst_t, qTru_n, qTru_b, qTru_i, qTru_s, qTru_l, qTru_t, qSum_l, qAny_l, qAny_t, qJoin_l, qCount_s, qEq_e, qNe_e, qRepr_e, dAsgT, dNeg, qNeg_i, dgTup, dgCons, dgName, dgNil, dPar, diR1, diOwn, diSeq, diL, diZip, diZipM, diVar, dParL, startS, toS, List.map_cons, List.map_nil, List.length_cons, List.length_nil, List.replicate, List.cons_append, List.nil_append, List.append_nil, List.getElem?_cons_zero, List.getElem?_cons_succ, List.set_cons_zero, List.set_cons_succ, Nat.reduceSub, Nat.reduceAdd, wipeS, canD, if_true, if_false, ite_true, ite_false, Bool.false_eq_true, PyData.bool.injEq, exists_eq_left', exists_eq_left, shp_i, shp_s, shp_b, shp_n, shp_e, shp_z, eqv_tt, eqv_lt, eqv_i, true_and, ix0, ix1, ix2, Option.some.injEq, PyData.tuple.injEq, PyData.list.injEq, PyData.int.injEq, PyData.str.injEq, S.own.injEq]
    cases hsm : small qs with
    | true =>
      rw [if_neg (by decide)]
      exact ⟨sz6 (by decide), hq qs _ g1 g2 g3 hsm (by omega) (by omega)⟩
    | false =>
      rw [if_pos (show (!false) = true from rfl), cut_last, dropLast_data]
      have hne : qs ≠ [] := fun e => by
        rw [e] at hsm
        exact absurd hsm (by decide)
      have hpos : 0 < qs.length := List.length_pos_iff.mpr hne
      refine ⟨.inl (by simpa [NL] using NL_datas _), _, ?_, qs.dropLast, rfl, rfl, good_dropLast g1, ?_, dep_dropLast g3⟩
      · rw [List.length_dropLast]; omega
      · rw [List.length_dropLast]; omega
end
end Law

namespace Law
open PySem PySem.Spec PyProof.Rows L2 Ev
/-! ### forms and words by repr -/
theorem sok_lit (x : Str) (h : (x.cps.toList.all fun c => decide (c < 1114112)) = true) : PyData.strOk x = true := by
  unfold PyData.strOk
  rw [Array.all_eq_true_iff_forall_mem]
  intro c hc
  exact List.all_eq_true.mp h c (Array.mem_toList_iff.mpr hc)
theorem sok_abc {z : Str} (h : abc z) : PyData.strOk z = true := sok_lit z (List.all_eq_true.mpr fun c hc => decide_eq_true (by have := h c hc; omega))
theorem nice_fm {f : List Nat} (h : ∀ x ∈ f, x ≤ 10 ^ 60) : nice (fmD f) = true := by
  simp only [fmD, nice]
  exact niceA_iff.mpr fun d hd => by
    obtain ⟨x, hx, rfl⟩ := List.mem_map.mp hd
    exact nice_nat (h x hx)
theorem wt_fm (f : List Nat) : wt (fmD f) ≤ 1924 * f.length + 3 := by
  simp only [fmD, wt]
  have := wtA_le (c := 1922) (xs := f.map fun (x : Nat) => PyData.int (x : Int)) fun d hd => by
    obtain ⟨x, _, rfl⟩ := List.mem_map.mp hd
    exact Nat.le_refl _
  rw [List.length_map] at this
  omega
theorem depth_fm (f : List Nat) : (fmD f).depth ≤ 1 := by
  simp only [fmD, PyData.depth]
  have := depthA_le (c := 0) (xs := f.map fun (x : Nat) => PyData.int (x : Int)) fun d hd => by
    obtain ⟨x, _, rfl⟩ := List.mem_map.mp hd
    simp [PyData.depth]
  omega
theorem shows_fm {f : List Nat} (h : ∀ x ∈ f, x ≤ 10 ^ 60) (hl : f.length ≤ 4) : shows (fmD f) := shows_of (nice_fm h) (Nat.le_trans (depth_fm f) (by decide)) (by have := wt_fm f; omega)
theorem abc_rep {z : Str} (h : abc z) (n : Nat) : abc (srep z n) := fun c hc => by
  rw [srep_list] at hc
  obtain ⟨l, hl, hc⟩ := List.mem_flatten.mp hc
  rw [List.eq_of_mem_replicate hl] at hc
  exact h c hc
theorem srep_len (z : Str) (n : Nat) : (srep z n).length = n * z.length := by rw [str_len, srep_list, List.length_flatten, List.map_replicate, List.sum_replicate_nat, ← str_len]
end Law

namespace Law
open PySem PySem.Spec PyProof.Rows L2 Ev
/-! ### a program's text by repr -/
mutual
theorem nice_part {k : Nat} : ∀ (p : Part) (free : Bool), Good k free p → nice p.data = true
  | .text w, _, h => by
    simp only [Part.data, nice, niceA, sok_abc h.2, sok_lit (Str.ofString "text") (by decide +kernel)]
    rfl
  | .loop f ps, free, h => by
    have h1 := nice_fm (f := f) fun x hx => Nat.le_trans (h.2.1 x hx) (by decide)
    have h2 := nice_parts ps _ h.2.2.2.2.2
    simp only [Part.data, nice, niceA, h1, h2, sok_lit (Str.ofString "loop") (by decide +kernel)]
    rfl
theorem nice_parts {k : Nat} : ∀ (ps : List Part) (free : Bool), GoodAll k free ps → niceA (dataAll ps) = true
  | [], _, _ => rfl
  | p :: r, free, h => by simp only [dataAll, niceA, nice_part p free h.1, nice_parts r free h.2, Bool.and_self]
end
mutual
theorem wt_part {k : Nat} (hk : k ≤ 3) : ∀ (p : Part) (free : Bool), Good k free p → wt p.data ≤ 8000 * 3 ^ p.dep
  | .text w, _, h => by
    have hl : w.length ≤ 4 := h.1
    have e : (Str.ofString "text").length = 4 := by decide +kernel
    simp only [Part.data, wt, wtA, Part.dep, e]
    omega
  | .loop f ps, free, h => by
    have h1 := wt_fm f
    have h2 := wt_parts hk ps _ h.2.2.2.2.2
    have e : (Str.ofString "loop").length = 4 := by decide +kernel
    have hf : f.length = k + 1 := h.1
    have hl : ps.length ≤ 2 := h.2.2.2.2.1
    simp only [Part.data, wt, wtA, Part.dep, e]
    have h3 : ps.length * (8000 * 3 ^ depAll ps + 2) ≤ 2 * (8000 * 3 ^ depAll ps + 2) := Nat.mul_le_mul_right _ hl
    have h4 : 8000 * 3 ^ (depAll ps + 1) = 8000 * 3 ^ depAll ps * 3 := by rw [Nat.pow_succ, ← Nat.mul_assoc]
    have h5 : 1 ≤ 3 ^ depAll ps := Nat.one_le_pow _ _ (by decide)
    omega
theorem wt_parts {k : Nat} (hk : k ≤ 3) : ∀ (ps : List Part) (free : Bool), GoodAll k free ps → wtA (dataAll ps) ≤ ps.length * (8000 * 3 ^ depAll ps + 2)
  | [], _, _ => Nat.zero_le _
  | p :: r, free, h => by
    have h1 := wt_part hk p free h.1
    have h2 := wt_parts hk r free h.2
    have h3 : 3 ^ p.dep ≤ 3 ^ depAll (p :: r) := Nat.pow_le_pow_right (by decide) (Nat.le_max_left _ _)
    have h4 : 3 ^ depAll r ≤ 3 ^ depAll (p :: r) := Nat.pow_le_pow_right (by decide) (Nat.le_max_right _ _)
    have h5 : r.length * (8000 * 3 ^ depAll r + 2) ≤ r.length * (8000 * 3 ^ depAll (p :: r) + 2) := Nat.mul_le_mul_left _ (by omega)
    simp only [dataAll, wtA, List.length_cons]
    rw [Nat.add_mul r.length 1, Nat.one_mul]
    generalize 3 ^ depAll (p :: r) = m at *
    generalize 3 ^ p.dep = m1 at *
    generalize r.length * (8000 * m + 2) = m2 at *
    omega
end
mutual
theorem depth_part : ∀ p : Part, p.data.depth ≤ 2 * p.dep + 1
  | .text w => by simp [Part.data, PyData.depth, PyData.depthAll]
  | .loop f ps => by
    have h1 := depth_fm f
    have h2 := depth_parts ps
    simp only [Part.data, PyData.depth, PyData.depthAll, Part.dep]
    omega
theorem depth_parts : ∀ ps : List Part, PyData.depthAll (dataAll ps) ≤ 2 * depAll ps + 1
  | [] => by simp [dataAll, PyData.depthAll]
  | p :: r => by
    have h1 := depth_part p
    have h2 := depth_parts r
    simp only [dataAll, PyData.depthAll, depAll]
    omega
end
def progD (k : Nat) (ps : List Part) : PyData := .tuple [.int k, .tuple (dataAll ps)]
theorem nice_prog {k : Nat} {ps : List Part} (h : GoodAll k true ps) (hk : k ≤ 3) : nice (progD k ps) = true := by
  have h1 := nice_parts ps true h
  simp only [progD, nice, niceA, h1, Bool.and_true]
  exact nice_nat (by omega)
theorem wt_prog {k : Nat} {ps : List Part} (h : GoodAll k true ps) (hk : k ≤ 3) (hl : ps.length ≤ 5) (hd : depAll ps ≤ 3) : wt (progD k ps) ≤ 1090000 := by
  have h1 := wt_parts hk ps true h
  have h2 : 3 ^ depAll ps ≤ 27 := Nat.le_trans (Nat.pow_le_pow_right (by decide) hd) (by decide)
  have h3 : ps.length * (8000 * 3 ^ depAll ps + 2) ≤ 5 * (8000 * 27 + 2) := Nat.mul_le_mul hl (by omega)
  simp only [progD, wt, wtA]
  omega
theorem depth_prog {k : Nat} {ps : List Part} (hd : depAll ps ≤ 3) : (progD k ps).depth ≤ 10 := by
  have := depth_parts ps
  simp only [progD, PyData.depth, PyData.depthAll]
  omega
theorem shows_prog {k : Nat} {ps : List Part} (h : GoodAll k true ps) (hk : k ≤ 3) (hl : ps.length ≤ 5) (hd : depAll ps ≤ 3) : shows (progD k ps) := by
  have h1 := nice_prog h hk
  exact ⟨(nice_show _ h1).1, (nice_show _ h1).2, Nat.le_trans (depth_prog hd) (by decide), Nat.le_trans (shown_le _ h1) (Nat.le_trans (wt_prog h hk hl hd) (by decide))⟩
theorem NL_prog (k : Nat) (ps : List Part) : NL (.tuple [.int k, .tuple (dataAll ps)]) = true := by simp only [NL, NLA, NL_datas, Bool.and_self]
end Law

namespace Law
open PySem PySem.Spec PyProof.Rows L2 Ev
/-! ### one statement after another -/
theorem seq_mid {A R : DS} {DD : DEnds} {ss : List S} {n : Nat} (P : List S → Nat → Prop) (h : ∀ N : List S → Nat → Prop, (∀ ss' n', P ss' n' → N ss' n') → A { DD with nx := N } ss n) (hR : ∀ ss' n', P ss' n' → R DD ss' n') : dSeq A R DD ss n := h (R DD) hR
theorem if_known {t : DT} {A : DS} {DD : DEnds} {ss : List S} {n : Nat} (b : Bool) (ht : ∀ Q : Bool → Nat → Prop, Q b n → t ss n Q) (h : if b = true then A DD ss n else DD.nx ss n) : dIfS t A dNext DD ss n := ht _ (by cases b <;> exact h)
theorem eqv_nilT (xs : List PyData) : PyData.eqv (.tuple xs) (.tuple []) = xs.isEmpty := by cases xs <;> simp [PyData.eqv, PyData.eqvAll]
end Law

namespace Law
open PySem PySem.Spec PyProof.Rows L2 Ev
/-! ### texts of forms -/
def CN : List Str := [⟨#[110]⟩, ⟨#[109]⟩, ⟨#[112]⟩]
def iS (x : Nat) : Str := Str.ofString (toString (x : Int))
def tmS (x : Nat) (c : Str) : Str := (if x > 1 then iS x else Str.ofString "") ++ c
def tmsS (f : List Nat) : List Str := ((f.tail.zip CN).filter fun p => decide (p.1 ≠ 0)).map fun p => tmS p.1 p.2
def allS (f : List Nat) : List Str := if f.headD 0 ≠ 0 ∨ tmsS f = [] then tmsS f ++ [iS (f.headD 0)] else tmsS f
def fmS (f : List Nat) : Str := Txt.join (Str.ofString "+") (allS f)
theorem iS_len {x : Nat} (h : x ≤ 99) : (iS x).length ≤ 2 := by
  have : ∀ x : Fin 100, (iS x.1).length ≤ 2 := by decide +kernel
  exact this ⟨x, by omega⟩
theorem app_lenS (x y : Str) : (x ++ y).length = x.length + y.length := by
  rw [str_len, app_list, List.length_append, str_len, str_len]
theorem sjoin_len (a : Str) : ∀ ys : List Str, (Str.join a ys).length ≤ (ys.map (·.length)).sum + ys.length * a.length
  | [] => Nat.zero_le _
  | [x] => by simp [Str.join]
  | x :: y :: r => by
    have ih := sjoin_len a (y :: r)
    unfold Str.join
    rw [app_lenS, app_lenS]
    simp only [List.map_cons, List.sum_cons, List.length_cons, Nat.add_mul] at *
    omega
theorem tjoin_len (a : Str) (ys : List Str) : (Txt.join a ys).length ≤ (ys.map (·.length)).sum + ys.length * a.length := by
  have h : Txt.join a ys = Str.join a ys := eq_of_beq (PyProof.Rows.join_plain_closes _ _)
  rw [h]
  exact sjoin_len a ys
theorem sum_le (l : List Str) (m : Nat) (h : ∀ x ∈ l, x.length ≤ m) : (l.map (·.length)).sum ≤ m * l.length := by
  induction l with
  | nil => exact Nat.zero_le _
  | cons x r ih =>
    have h1 := h x List.mem_cons_self
    have h2 := ih fun y hy => h y (List.mem_cons_of_mem _ hy)
    rw [List.map_cons, List.sum_cons, List.length_cons, Nat.mul_add]
    omega
theorem CN_len : ∀ c ∈ CN, c.length = 1 := by decide +kernel
theorem tmS_len {x : Nat} {c : Str} (h : x ≤ 99) (hc : c ∈ CN) : (tmS x c).length ≤ 3 := by
  unfold tmS
  rw [app_lenS, CN_len c hc]
  split
  · have := iS_len h; omega
  · exact (by decide : 0 + 1 ≤ 3)
theorem tms_len {f : List Nat} (h : ∀ x ∈ f, x ≤ 99) : ∀ x ∈ tmsS f, x.length ≤ 3 := fun x hx => by
  obtain ⟨p, hp, rfl⟩ := List.mem_map.mp hx
  have hm := (List.mem_filter.mp hp).1
  exact tmS_len (h _ (List.mem_of_mem_tail (List.of_mem_zip hm).1)) (List.of_mem_zip hm).2
theorem tms_few (f : List Nat) : (tmsS f).length ≤ 3 := by
  unfold tmsS
  rw [List.length_map]
  refine Nat.le_trans (List.length_filter_le _ _) ?_
  rw [List.length_zip]
  exact Nat.min_le_right _ _
theorem all_len {f : List Nat} (h : ∀ x ∈ f, x ≤ 99) : ∀ x ∈ allS f, x.length ≤ 3 := fun x hx => by
  unfold allS at hx
  have h0 : f.headD 0 ≤ 99 := by
    cases f with
    | nil => exact Nat.zero_le _
    | cons a r => exact h a List.mem_cons_self
  split at hx
  · rcases List.mem_append.mp hx with hx | hx
    · exact tms_len h x hx
    · rw [List.mem_singleton.mp hx]
      have := iS_len h0
      omega
  · exact tms_len h x hx
theorem all_few (f : List Nat) : (allS f).length ≤ 4 := by
  have := tms_few f
  unfold allS
  split
  · rw [List.length_append, List.length_singleton]; omega
  · omega
theorem join_room {f : List Nat} (h : ∀ x ∈ f, x ≤ 99) : ((allS f).map (·.length)).sum + (allS f).length * (Str.ofString "+").length ≤ 16 := by
  have h1 := sum_le _ 3 (all_len h)
  have h2 := all_few f
  have h3 : (Str.ofString "+").length = 1 := by decide +kernel
  rw [h3]
  omega
theorem fmS_len {f : List Nat} (h : ∀ x ∈ f, x ≤ 99) : (fmS f).length ≤ 16 := Nat.le_trans (tjoin_len _ _) (join_room h)
theorem NLA_strs : ∀ l : List Str, NLA (l.map PyData.str) = true
  | [] => rfl
  | x :: r => by rw [List.map_cons, NLA, NLA_strs r]; rfl
theorem okD_strs (l : List Str) : okD (.list (l.map PyData.str)) = true := by
  have h1 : PyData.plainAll (l.map PyData.str) = true := by
    induction l with
    | nil => rfl
    | cons x r ih => rw [List.map_cons]; simp only [PyData.plainAll, PyData.plain, ih, Bool.and_self]
  have h2 : PyData.depthAll (l.map PyData.str) ≤ 1 := by
    clear h1
    induction l with
    | nil => simp [PyData.depthAll]
    | cons a b ih => simp [PyData.depthAll, PyData.depth]; omega
  unfold okD
  rw [Bool.and_eq_true]
  refine ⟨by rw [PyData.plain]; exact h1, decide_eq_true ?_⟩
  rw [PyData.depth]
  omega
theorem log99 {x : Nat} (h : x ≤ 99) : ((x : Nat) : Int).natAbs.log2 < 1920 := by
  rw [Int.natAbs_natCast]
  by_cases h0 : x = 0
  · rw [h0]; decide
  · exact (Nat.log2_lt h0).mpr (Nat.lt_of_le_of_lt h (by decide +kernel))
theorem zip_CN (r : List Nat) : zipD (fI r) (CN.map PyData.str) = (r.zip CN).map fun p => .tuple [.int (p.1 : Nat), .str p.2] := by
  unfold zipD fI CN
  match r with
  | [] => rfl
  | [_] => rfl
  | [_, _] => rfl
  | _ :: _ :: _ :: r => simp
theorem fm_cases {f : List Nat} {k : Nat} (h : f.length = k + 1) : ∃ a r, f = a :: r ∧ fmD f = .tuple (.int (a : Int) :: fI r) := by
  cases f with
  | nil => simp at h
  | cons a r => exact ⟨a, r, rfl, rfl⟩
section
variable {P : Program} {w : World} {K : PySem.W.Frag} {mg : Str → Option Value} {base : Heap}
theorem for_by {pi : DI} {pg : DG} {q : DS} {DD : DEnds} {ss : List S} {n : Nat} (l : List PyData) (hpi : ∀ R : List PyData → Nat → Prop, R l n → pi ss n R) (h : ∃ I : Nat → List S → Nat → Prop, I 0 ss n ∧
  (∀ i d ss' n', l[i]? = some d → I i ss' n' → pg d ss' n' fun ss2 n2 => q { DD with nx := I (i + 1), ct := I (i + 1), bk := DD.nx } ss2 n2) ∧ ∀ ss' n', I l.length ss' n' → DD.nx ss' n') : dFor pi pg q DD ss n := hpi _ h
def F_tm : DF := fun as n Q => ∃ (x : Nat) (c : Str), as = [.d (.int x), .d (.str c)] ∧ x ≠ 0 ∧ x ≤ 99 ∧ c ∈ CN ∧ Q (.str (tmS x c)) n
theorem c_tm (T : Txt K mg "term_text" s_term_text P_term_text) (B : Blt mg) : Cal P w K mg base "term_text" P_term_text 1 (spD F_tm) := by
  refine T.def sc_term_text (fun as n Q h => by obtain ⟨x, c, rfl, _⟩ := h; rfl) (fun f cdv A o s H E hr hg => ⟨_, (b_cons (s_if (lt_cmp (k_eq (K := K) (by rfl) hr.units) (lv 0) l_int (nomark _)) (b_one (s_ret (lv 1))) b_nil)
  (b_one (s_ret (k_add (K := K) (by rfl) (l_callT b_str (by rfl) B.str (by decide +kernel) (a_cons (gv 0) a_nil)) (lv 1)))))⟩) (fun as n Q h => ?_)
  obtain ⟨x, c, rfl, hx0, hx, hc, hq⟩ := h
  simp (config := { maxSteps := 1000000 }) only [diZipC, diZipS, qStr_i, dSeq, dSet, dSetL, dRet, dRetO, dRetL, dIfS, dNext, dApp, dSetIx, dVar, dC, dOp, dFn, dFnL, dCons, dNil, dArg, dArgV, onD, datas, dTup, dLst, dLstL, dOfL, dAddL, dMulL, dIf, dTest, dTru, dNot, dAnd, dOr, dNotV, dAndV, dOrV, dSl, dPart, dNoPart, dCall, dMt, qAdd_i, qAdd_s, qAdd_t, qAdd_l, qSub_i, qDiv_i, qMod_i, qPow_i, qMul_i, qMul_s, qMul_t, qMul_l, qLt_i, qLe_i, qGt_i, qGe_i, qIx_l, qIx_t, qIx_s, qSl_l, qSl_t, qSl_s, qLen_l, qLen_t, qLen_s, qInt_i, qInt_b, qMin_i, qMax_i, qTup_l, qTup_t, qLst_l, qLst_t, qTru_n, qTru_b, qTru_i, qTru_s, qTru_l, qTru_t, qSum_l, qAny_l, qAny_t, qJoin_l, qCount_s, qEq_e, qNe_e, qRepr_e, dAsgT, dNeg, qNeg_i, dgTup, dgCons, dgName, dgNil, dPar, diR1, diOwn, diSeq, diL, diZip, diZipM, diVar, dParL, startS, toS, List.map_cons, List.map_nil, List.length_cons, List.length_nil, List.replicate, List.cons_append, List.nil_append, List.append_nil, List.getElem?_cons_zero, List.getElem?_cons_succ, List.set_cons_zero, List.set_cons_succ, Nat.reduceSub, Nat.reduceAdd, wipeS, canD, if_true, if_false, ite_true, ite_false, Bool.false_eq_true, PyData.bool.injEq, exists_eq_left', exists_eq_left, shp_i, shp_s, shp_b, shp_n, shp_e, shp_z, eqv_tt, eqv_lt, eqv_i, true_and, ix0, ix1, ix2, Option.some.injEq, PyData.tuple.injEq, PyData.list.injEq, PyData.int.injEq, PyData.str.injEq, S.own.injEq]
  have hl := CN_len c hc
  by_cases h : (x : Int) = 1
  · rw [decide_eq_true h, if_pos rfl]
    have e : tmS x c = c := by
      unfold tmS
      rw [if_neg (by omega)]
      exact str_ext (by rw [app_list]; rfl)
    rw [e] at hq
    exact hq
  · rw [decide_eq_false h, if_neg (by decide)]
    have e : tmS x c = iS x ++ c := by
      unfold tmS
      rw [if_pos (by omega)]
    rw [e] at hq
    refine ⟨log99 hx, sz6 (by have := iS_len hx; show (iS x).length + _ ≤ _; omega), hq⟩
def F_fm : DF := fun as n Q => ∃ (k : Nat) (f : List Nat), as = [.d (fmD f)] ∧ f.length = k + 1 ∧ k ≤ 3 ∧ (∀ x ∈ f, x ≤ 99) ∧ Q (.str (fmS f)) n
theorem c_fm (T : Txt K mg "form_text" s_form_text P_form_text) (B : Blt mg) {cC : Addr} (V_COUNTS : ConT K mg "COUNTS" ["n", "m", "p"] cC) (C_term_text : Cal P w K mg base "term_text" P_term_text 1 (spD F_tm)) : Cal P w K mg base "form_text" P_form_text 2 (spD F_fm) := by
  refine T.def sc_form_text (fun as n Q h => by obtain ⟨k, f, rfl, _⟩ := h; rfl) (fun f cdv A o s H E hr hg => ⟨_, (b_cons (s_setLc (i := 1) (own := [("factor", 2), ("count", 3)]) rfl sc_form_text.nd rfl rfl (ic_ (k_zipC (K := K) (by rfl) (by rfl) B.zip (k_sl (K := K) (by rfl) (lv 0) (o_some l_int) o_none) (by rfl) V_COUNTS)) (blkOk_by (own := [("factor", 2), ("count", 3)]) (N := N_form_text) (sc := defScope s_form_text) (by decide +kernel)) (fun _ _ _ _ _ => (k_tup (n := 2) (K := K) (by rfl) (by rfl) (gs_cons (g_name (i := 2) sc_form_text.nd rfl (Or.inl rfl)) (gs_cons (g_name (i := 3) sc_form_text.nd rfl (Or.inl rfl)) gs_nil)))) (fun _ _ _ _ _ => (ts_one (lt_cmp (k_ne (K := K) (by rfl) hr.units) (lv 2) l_int (nomark _)))) (fun _ _ _ _ _ => (l_cal C_term_text (hr.mono (by omega)) hg (by rfl) (a_cons (gv 2) (a_cons (gv 3) a_nil)))) (sw_true rfl rfl rfl (by decide +kernel)))
  (b_cons (s_if (lw_or (lt_cmp (k_ne (K := K) (by rfl) hr.units) (k_ix (K := K) (by rfl) (lv 0) l_int) l_int (nomark _)) (lw_or1 (lt_cmp (k_eq (K := K) (by rfl) hr.units) (l_callB (kb_len (K := K) (by rfl)) (by rfl) B.len (by decide +kernel) (a_cons (gv 1) a_nil)) l_int (nomark _)))).t (b_one (s_app (i := 1) (lv 1) (l_callT b_str (by rfl) B.str (by decide +kernel) (a_cons (g_ (k_ix (K := K) (by rfl) (lv 0) l_int)) a_nil)))) b_nil)
  (b_one (s_ret (k_join (K := K) (by rfl) l_str (lv 1))))))⟩) (fun as n Q h => ?_)
  obtain ⟨k, f, rfl, hf, hk, hx, hq⟩ := h
  obtain ⟨a, r, rfl, ef⟩ := fm_cases hf
  rw [ef]
  simp (config := { maxSteps := 1000000 }) only [diZipC, diZipS, qStr_i, dSeq, dSet, dSetL, dRet, dRetO, dRetL, dIfS, dNext, dApp, dSetIx, dVar, dC, dOp, dFn, dFnL, dCons, dNil, dArg, dArgV, onD, datas, dTup, dLst, dLstL, dOfL, dAddL, dMulL, dIf, dTest, dTru, dNot, dAnd, dOr, dNotV, dAndV, dOrV, dSl, dPart, dNoPart, dCall, dMt, qAdd_i, qAdd_s, qAdd_t, qAdd_l, qSub_i, qDiv_i, qMod_i, qPow_i, qMul_i, qMul_s, qMul_t, qMul_l, qLt_i, qLe_i, qGt_i, qGe_i, qIx_l, qIx_t, qIx_s, qSl_l, qSl_t, qSl_s, qLen_l, qLen_t, qLen_s, qInt_i, qInt_b, qMin_i, qMax_i, qTup_l, qTup_t, qLst_l, qLst_t, qTru_n, qTru_b, qTru_i, qTru_s, qTru_l, qTru_t, qSum_l, qAny_l, qAny_t, qJoin_l, qCount_s, qEq_e, qNe_e, qRepr_e, dAsgT, dNeg, qNeg_i, dgTup, dgCons, dgName, dgNil, dPar, diR1, diOwn, diSeq, diL, diZip, diZipM, diVar, dParL, startS, toS, List.map_cons, List.map_nil, List.length_cons, List.length_nil, List.replicate, List.cons_append, List.nil_append, List.append_nil, List.getElem?_cons_zero, List.getElem?_cons_succ, List.set_cons_zero, List.set_cons_succ, Nat.reduceSub, Nat.reduceAdd, wipeS, canD, if_true, if_false, ite_true, ite_false, Bool.false_eq_true, PyData.bool.injEq, exists_eq_left', exists_eq_left, shp_i, shp_s, shp_b, shp_n, shp_e, shp_z, eqv_tt, eqv_lt, eqv_i, true_and, ix0, ix1, ix2, Option.some.injEq, PyData.tuple.injEq, PyData.list.injEq, PyData.int.injEq, PyData.str.injEq, S.own.injEq]
  have ec : cut (PyData.int (a : Int) :: fI r) (some 1) none = fI r := cut_tail _
  have ha : a ≤ 99 := hx a List.mem_cons_self
  have hr : r.length ≤ 3 := by simp at hf; omega
  have join : ∀ ys : List Str, ys = allS (a :: r) → (∃ z, Str.ofString "+" = z) ∧ ∃ zs : List Str, ys.map PyData.str = List.map PyData.str zs ∧ (List.map (fun x => x.length) zs).sum + zs.length * (Str.ofString "+").length ≤ 16777216 ∧ Q (PyData.str (Txt.join (Str.ofString "+") zs)) n := fun ys e => by
    subst e
    exact ⟨⟨_, rfl⟩, _, rfl, Nat.le_trans (join_room hx) (by decide), hq⟩
  refine lc_all (r.zip CN) (fun p => .tuple [.int (p.1 : Nat), .str p.2]) (fun p => decide (p.1 ≠ 0)) (fun p => .str (tmS p.1 p.2)) n rfl (fun R hR => ?_) (sz6 (by rw [List.length_zip]; omega)) (fun p hp => ⟨rfl, fun R R' h1 h2 => ?_⟩) ?_
  · simp (config := { maxSteps := 1000000 }) only [diZipC, diZipS, qStr_i, dSeq, dSet, dSetL, dRet, dRetO, dRetL, dIfS, dNext, dApp, dSetIx, dVar, dC, dOp, dFn, dFnL, dCons, dNil, dArg, dArgV, onD, datas, dTup, dLst, dLstL, dOfL, dAddL, dMulL, dIf, dTest, dTru, dNot, dAnd, dOr, dNotV, dAndV, dOrV, dSl, dPart, dNoPart, dCall, dMt, qAdd_i, qAdd_s, qAdd_t, qAdd_l, qSub_i, qDiv_i, qMod_i, qPow_i, qMul_i, qMul_s, qMul_t, qMul_l, qLt_i, qLe_i, qGt_i, qGe_i, qIx_l, qIx_t, qIx_s, qSl_l, qSl_t, qSl_s, qLen_l, qLen_t, qLen_s, qInt_i, qInt_b, qMin_i, qMax_i, qTup_l, qTup_t, qLst_l, qLst_t, qTru_n, qTru_b, qTru_i, qTru_s, qTru_l, qTru_t, qSum_l, qAny_l, qAny_t, qJoin_l, qCount_s, qEq_e, qNe_e, qRepr_e, dAsgT, dNeg, qNeg_i, dgTup, dgCons, dgName, dgNil, dPar, diR1, diOwn, diSeq, diL, diZip, diZipM, diVar, dParL, startS, toS, List.map_cons, List.map_nil, List.length_cons, List.length_nil, List.replicate, List.cons_append, List.nil_append, List.append_nil, List.getElem?_cons_zero, List.getElem?_cons_succ, List.set_cons_zero, List.set_cons_succ, Nat.reduceSub, Nat.reduceAdd, wipeS, canD, if_true, if_false, ite_true, ite_false, Bool.false_eq_true, PyData.bool.injEq, exists_eq_left', exists_eq_left, shp_i, shp_s, shp_b, shp_n, shp_e, shp_z, eqv_tt, eqv_lt, eqv_i, true_and, ix0, ix1, ix2, Option.some.injEq, PyData.tuple.injEq, PyData.list.injEq, PyData.int.injEq, PyData.str.injEq, S.own.injEq]
    rw [ec]
    refine ⟨.inl (by simpa [NL] using NLA_fI r), ?_⟩
    show R (zipD (fI r) (CN.map PyData.str)) n
    rw [zip_CN]
    exact hR
  · obtain ⟨m1, m2⟩ := List.of_mem_zip hp
    have hp9 := hx _ (List.mem_cons_of_mem _ m1)
    simp (config := { maxSteps := 1000000 }) only [diZipC, diZipS, qStr_i, dSeq, dSet, dSetL, dRet, dRetO, dRetL, dIfS, dNext, dApp, dSetIx, dVar, dC, dOp, dFn, dFnL, dCons, dNil, dArg, dArgV, onD, datas, dTup, dLst, dLstL, dOfL, dAddL, dMulL, dIf, dTest, dTru, dNot, dAnd, dOr, dNotV, dAndV, dOrV, dSl, dPart, dNoPart, dCall, dMt, qAdd_i, qAdd_s, qAdd_t, qAdd_l, qSub_i, qDiv_i, qMod_i, qPow_i, qMul_i, qMul_s, qMul_t, qMul_l, qLt_i, qLe_i, qGt_i, qGe_i, qIx_l, qIx_t, qIx_s, qSl_l, qSl_t, qSl_s, qLen_l, qLen_t, qLen_s, qInt_i, qInt_b, qMin_i, qMax_i, qTup_l, qTup_t, qLst_l, qLst_t, qTru_n, qTru_b, qTru_i, qTru_s, qTru_l, qTru_t, qSum_l, qAny_l, qAny_t, qJoin_l, qCount_s, qEq_e, qNe_e, qRepr_e, dAsgT, dNeg, qNeg_i, dgTup, dgCons, dgName, dgNil, dPar, diR1, diOwn, diSeq, diL, diZip, diZipM, diVar, dParL, startS, toS, List.map_cons, List.map_nil, List.length_cons, List.length_nil, List.replicate, List.cons_append, List.nil_append, List.append_nil, List.getElem?_cons_zero, List.getElem?_cons_succ, List.set_cons_zero, List.set_cons_succ, Nat.reduceSub, Nat.reduceAdd, wipeS, canD, if_true, if_false, ite_true, ite_false, Bool.false_eq_true, PyData.bool.injEq, exists_eq_left', exists_eq_left, shp_i, shp_s, shp_b, shp_n, shp_e, shp_z, eqv_tt, eqv_lt, eqv_i, true_and, ix0, ix1, ix2, Option.some.injEq, PyData.tuple.injEq, PyData.list.injEq, PyData.int.injEq, PyData.str.injEq, S.own.injEq]
    by_cases h0 : ((p.1 : Nat) : Int) = 0
    · rw [decide_eq_true h0, if_neg (show ¬ (!true) = true by decide)]
      exact h2 (decide_eq_false fun h => h (by omega))
    · rw [decide_eq_false h0, if_pos (show (!false) = true from rfl)]
      exact ⟨p.1, p.2, rfl, by omega, hp9, m2, h1 (decide_eq_true (by omega))⟩
  · have e : List.map (fun p : Nat × Str => PyData.str (tmS p.1 p.2)) ((r.zip CN).filter fun p => decide (p.1 ≠ 0)) = (tmsS (a :: r)).map PyData.str := by
      unfold tmsS
      rw [List.map_map]
      rfl
    have hs : NLA ((tmsS (a :: r)).map PyData.str) = true := NLA_strs _
    have hl3 := tms_few (a :: r)
    rw [e]
    refine ⟨by decide, hs, ?_⟩
    have put : allS (a :: r) = tmsS (a :: r) ++ [iS a] → ((a : Nat) : Int).natAbs.log2 < 1920 ∧ ((tmsS (a :: r)).map PyData.str).length < sizeLine ∧ NL (PyData.str (iS a)) = true ∧ (∃ z, Str.ofString "+" = z) ∧ ∃ zs : List Str, (tmsS (a :: r)).map PyData.str ++ [PyData.str (iS a)] = List.map PyData.str zs ∧ (List.map (fun x => x.length) zs).sum + zs.length * (Str.ofString "+").length ≤ 16777216 ∧ Q (PyData.str (Txt.join (Str.ofString "+") zs)) n := fun e => by
      have := join _ e.symm
      rw [List.map_append] at this
      exact ⟨log99 ha, by rw [List.length_map]; exact Nat.lt_of_le_of_lt hl3 (by decide), rfl, this⟩
    by_cases h0 : (a : Int) = 0
    · rw [decide_eq_true h0, if_neg (by decide)]
      by_cases h1 : (((tmsS (a :: r)).map PyData.str).length : Int) = 0
      · rw [decide_eq_true h1, if_pos rfl]
        refine put ?_
        unfold allS
        rw [if_pos (.inr (by rw [List.length_map] at h1; exact List.eq_nil_of_length_eq_zero (by omega)))]
        rfl
      · rw [decide_eq_false h1, if_neg (by decide)]
        refine join _ ?_
        unfold allS
        rw [if_neg]
        rintro (h | h)
        · exact h (by show a = 0; omega)
        · rw [h] at h1
          exact h1 rfl
    · rw [decide_eq_false h0, if_pos (show (!false) = true from rfl)]
      refine put ?_
      unfold allS
      rw [if_pos (.inl (by show a ≠ 0; omega))]
      rfl
def F_lfm : DF := F_fm
theorem c_lfm (T : Txt K mg "_law_form_text" s__law_form_text P__law_form_text) (B : Blt mg) : Cal P w K mg base "_law_form_text" P__law_form_text 2 (spD F_lfm) := by
  refine T.def sc__law_form_text (fun as n Q h => by obtain ⟨k, f, rfl, _⟩ := h; rfl) (fun f cdv A o s H E hr hg => ⟨_, (b_cons (s_setL (i := 1) sc__law_form_text.nd rfl (Or.inl rfl) (f_lst a_nil))
  (b_cons (s_for PassesOwn.never rfl (k_zipS (K := K) (by rfl) (by rfl) B.zip (a_cons (g_ (k_sl (K := K) (by rfl) (lv 0) (o_some l_int) o_none)) (a_cons (g_ l_str) a_nil))) (k_tup (n := 2) (K := K) (by rfl) (by rfl) (gs_cons (g_name (i := 2) sc__law_form_text.nd rfl (Or.inl rfl)) (gs_cons (g_name (i := 3) sc__law_form_text.nd rfl (Or.inl rfl)) gs_nil))) (b_one (s_if (lt_cmp c_gt (lv 2) l_int (nomark _)) (b_one (s_app (i := 1) (lv 1) (k_add (K := K) (by rfl) (l_if (lt_cmp c_gt (lv 2) l_int (nomark _)) (l_callT b_str (by rfl) B.str (by decide +kernel) (a_cons (gv 2) a_nil)) l_str) (lv 3)))) b_nil)))
  (b_cons (s_if (lw_or (lt_cmp c_gt (k_ix (K := K) (by rfl) (lv 0) l_int) l_int (nomark _)) (lw_or1 (lt_cmp (k_eq (K := K) (by rfl) hr.units) (lv 1) (l_lst a_nil) (nomark _)))).t (b_one (s_app (i := 1) (lv 1) (l_callT b_str (by rfl) B.str (by decide +kernel) (a_cons (g_ (k_ix (K := K) (by rfl) (lv 0) l_int)) a_nil)))) b_nil)
  (b_one (s_ret (k_join (K := K) (by rfl) l_str (lv 1)))))))⟩) (fun as n Q h => ?_)
  obtain ⟨k, f, rfl, hf, hk, hx, hq⟩ := h
  obtain ⟨a, r, rfl, ef⟩ := fm_cases hf
  rw [ef]
  simp (config := { maxSteps := 1000000 }) only [diZipC, diZipS, qStr_i, dSeq, dSet, dSetL, dRet, dRetO, dRetL, dIfS, dNext, dApp, dSetIx, dVar, dC, dOp, dFn, dFnL, dCons, dNil, dArg, dArgV, onD, datas, dTup, dLst, dLstL, dOfL, dAddL, dMulL, dIf, dTest, dTru, dNot, dAnd, dOr, dNotV, dAndV, dOrV, dSl, dPart, dNoPart, dCall, dMt, qAdd_i, qAdd_s, qAdd_t, qAdd_l, qSub_i, qDiv_i, qMod_i, qPow_i, qMul_i, qMul_s, qMul_t, qMul_l, qLt_i, qLe_i, qGt_i, qGe_i, qIx_l, qIx_t, qIx_s, qSl_l, qSl_t, qSl_s, qLen_l, qLen_t, qLen_s, qInt_i, qInt_b, qMin_i, qMax_i, qTup_l, qTup_t, qLst_l, qLst_t, qTru_n, qTru_b, qTru_i, qTru_s, qTru_l, qTru_t, qSum_l, qAny_l, qAny_t, qJoin_l, qCount_s, qEq_e, qNe_e, qRepr_e, dAsgT, dNeg, qNeg_i, dgTup, dgCons, dgName, dgNil, dPar, diR1, diOwn, diSeq, diL, diZip, diZipM, diVar, dParL, startS, toS, List.map_cons, List.map_nil, List.length_cons, List.length_nil, List.replicate, List.cons_append, List.nil_append, List.append_nil, List.getElem?_cons_zero, List.getElem?_cons_succ, List.set_cons_zero, List.set_cons_succ, Nat.reduceSub, Nat.reduceAdd, wipeS, canD, if_true, if_false, ite_true, ite_false, Bool.false_eq_true, PyData.bool.injEq, exists_eq_left', exists_eq_left, shp_i, shp_s, shp_b, shp_n, shp_e, shp_z, eqv_tt, eqv_lt, eqv_i, true_and, ix0, ix1, ix2, Option.some.injEq, PyData.tuple.injEq, PyData.list.injEq, PyData.int.injEq, PyData.str.injEq, S.own.injEq]
  have ec : cut (PyData.int (a : Int) :: fI r) (some 1) none = fI r := cut_tail _
  have ha : a ≤ 99 := hx a List.mem_cons_self
  have hr : r.length ≤ 3 := by simp at hf; omega
  have hl3 := tms_few (a :: r)
  have join : ∀ ys : List Str, ys = allS (a :: r) → (∃ z, Str.ofString "+" = z) ∧ ∃ zs : List Str, ys.map PyData.str = List.map PyData.str zs ∧ (List.map (fun x => x.length) zs).sum + zs.length * (Str.ofString "+").length ≤ 16777216 ∧ Q (PyData.str (Txt.join (Str.ofString "+") zs)) n := fun ys e => by
    subst e
    exact ⟨⟨_, rfl⟩, _, rfl, Nat.le_trans (join_room hx) (by decide), hq⟩
  have put : allS (a :: r) = tmsS (a :: r) ++ [iS a] → ((a : Nat) : Int).natAbs.log2 < 1920 ∧ ((tmsS (a :: r)).map PyData.str).length < sizeLine ∧ NL (PyData.str (iS a)) = true ∧ (∃ z, Str.ofString "+" = z) ∧ ∃ zs : List Str, (tmsS (a :: r)).map PyData.str ++ [PyData.str (iS a)] = List.map PyData.str zs ∧ (List.map (fun x => x.length) zs).sum + zs.length * (Str.ofString "+").length ≤ 16777216 ∧ Q (PyData.str (Txt.join (Str.ofString "+") zs)) n := fun e => by
    have := join _ e.symm
    rw [List.map_append] at this
    exact ⟨log99 ha, by rw [List.length_map]; exact Nat.lt_of_le_of_lt hl3 (by decide), rfl, this⟩
  have zl : ((r.zip CN).map fun p : Nat × Str => PyData.tuple [.int (p.1 : Nat), .str p.2]).length ≤ 3 := by rw [List.length_map, List.length_zip]; omega
  refine ⟨Nat.zero_le _, by decide, rfl, for_by ((r.zip CN).map fun p => .tuple [.int (p.1 : Nat), .str p.2]) (fun R hR => ?_) ⟨fun i ss n' => ∃ s2 s3 : S, noOwn [s2, s3] = true ∧ ss = [.d (.tuple (.int (a : Int) :: fI r)), .own (((((r.zip CN).take i).filter fun p => decide (p.1 ≠ 0)).map fun p => tmS p.1 p.2).map PyData.str), s2, s3] ∧ n' = n, ⟨_, _, rfl, rfl, rfl⟩, fun i d ss' n' hd ⟨s2, s3, ho, e1, e2⟩ => ?_, fun ss' n' ⟨s2, s3, ho, e1, e2⟩ => ?_⟩⟩
  · simp (config := { maxSteps := 1000000 }) only [diZipC, diZipS, qStr_i, dSeq, dSet, dSetL, dRet, dRetO, dRetL, dIfS, dNext, dApp, dSetIx, dVar, dC, dOp, dFn, dFnL, dCons, dNil, dArg, dArgV, onD, datas, dTup, dLst, dLstL, dOfL, dAddL, dMulL, dIf, dTest, dTru, dNot, dAnd, dOr, dNotV, dAndV, dOrV, dSl, dPart, dNoPart, dCall, dMt, qAdd_i, qAdd_s, qAdd_t, qAdd_l, qSub_i, qDiv_i, qMod_i, qPow_i, qMul_i, qMul_s, qMul_t, qMul_l, qLt_i, qLe_i, qGt_i, qGe_i, qIx_l, qIx_t, qIx_s, qSl_l, qSl_t, qSl_s, qLen_l, qLen_t, qLen_s, qInt_i, qInt_b, qMin_i, qMax_i, qTup_l, qTup_t, qLst_l, qLst_t, qTru_n, qTru_b, qTru_i, qTru_s, qTru_l, qTru_t, qSum_l, qAny_l, qAny_t, qJoin_l, qCount_s, qEq_e, qNe_e, qRepr_e, dAsgT, dNeg, qNeg_i, dgTup, dgCons, dgName, dgNil, dPar, diR1, diOwn, diSeq, diL, diZip, diZipM, diVar, dParL, startS, toS, List.map_cons, List.map_nil, List.length_cons, List.length_nil, List.replicate, List.cons_append, List.nil_append, List.append_nil, List.getElem?_cons_zero, List.getElem?_cons_succ, List.set_cons_zero, List.set_cons_succ, Nat.reduceSub, Nat.reduceAdd, wipeS, canD, if_true, if_false, ite_true, ite_false, Bool.false_eq_true, PyData.bool.injEq, exists_eq_left', exists_eq_left, shp_i, shp_s, shp_b, shp_n, shp_e, shp_z, eqv_tt, eqv_lt, eqv_i, true_and, ix0, ix1, ix2, Option.some.injEq, PyData.tuple.injEq, PyData.list.injEq, PyData.int.injEq, PyData.str.injEq, S.own.injEq]
    rw [ec]
    refine ⟨_, _, rfl, .inl (by simpa [NL] using NLA_fI r), ?_⟩
    show R (zipD (fI r) (CN.map PyData.str)) n
    rw [zip_CN]
    exact hR
  · subst e1 e2
    have hi := (List.getElem?_eq_some_iff.mp hd).1
    rw [List.getElem?_map] at hd
    obtain ⟨p, hp, rfl⟩ := Option.map_eq_some_iff.mp hd
    obtain ⟨m1, m2⟩ := List.of_mem_zip (List.mem_of_getElem? hp)
    have hp9 := hx _ (List.mem_cons_of_mem _ m1)
    have tk : ((r.zip CN).take (i + 1)).filter (fun p => decide (p.1 ≠ 0)) = ((r.zip CN).take i).filter (fun p => decide (p.1 ≠ 0)) ++ [p].filter (fun p => decide (p.1 ≠ 0)) := by rw [List.take_add_one, hp, List.filter_append] <;> rfl
    have few : ((((((r.zip CN).take i).filter fun p => decide (p.1 ≠ 0)).map fun p => tmS p.1 p.2).map PyData.str)).length < sizeLine := by
      rw [List.length_map, List.length_map]
      refine Nat.lt_of_le_of_lt (List.length_filter_le _ _) ?_
      rw [List.length_take]
      exact Nat.lt_of_le_of_lt (Nat.min_le_left _ _) (Nat.lt_of_lt_of_le hi (Nat.le_trans zl (by decide)))
    have il := iS_len hp9
    have cl := CN_len p.2 m2
    simp (config := { maxSteps := 1000000 }) only [diZipC, diZipS, qStr_i, dSeq, dSet, dSetL, dRet, dRetO, dRetL, dIfS, dNext, dApp, dSetIx, dVar, dC, dOp, dFn, dFnL, dCons, dNil, dArg, dArgV, onD, datas, dTup, dLst, dLstL, dOfL, dAddL, dMulL, dIf, dTest, dTru, dNot, dAnd, dOr, dNotV, dAndV, dOrV, dSl, dPart, dNoPart, dCall, dMt, qAdd_i, qAdd_s, qAdd_t, qAdd_l, qSub_i, qDiv_i, qMod_i, qPow_i, qMul_i, qMul_s, qMul_t, qMul_l, qLt_i, qLe_i, qGt_i, qGe_i, qIx_l, qIx_t, qIx_s, qSl_l, qSl_t, qSl_s, qLen_l, qLen_t, qLen_s, qInt_i, qInt_b, qMin_i, qMax_i, qTup_l, qTup_t, qLst_l, qLst_t, qTru_n, qTru_b, qTru_i, qTru_s, qTru_l, qTru_t, qSum_l, qAny_l, qAny_t, qJoin_l, qCount_s, qEq_e, qNe_e, qRepr_e, dAsgT, dNeg, qNeg_i, dgTup, dgCons, dgName, dgNil, dPar, diR1, diOwn, diSeq, diL, diZip, diZipM, diVar, dParL, startS, toS, List.map_cons, List.map_nil, List.length_cons, List.length_nil, List.replicate, List.cons_append, List.nil_append, List.append_nil, List.getElem?_cons_zero, List.getElem?_cons_succ, List.set_cons_zero, List.set_cons_succ, Nat.reduceSub, Nat.reduceAdd, wipeS, canD, if_true, if_false, ite_true, ite_false, Bool.false_eq_true, PyData.bool.injEq, exists_eq_left', exists_eq_left, shp_i, shp_s, shp_b, shp_n, shp_e, shp_z, eqv_tt, eqv_lt, eqv_i, true_and, ix0, ix1, ix2, Option.some.injEq, PyData.tuple.injEq, PyData.list.injEq, PyData.int.injEq, PyData.str.injEq, S.own.injEq]
    have adv : ∀ z : Str, 0 < p.1 → z = tmS p.1 p.2 → ((((r.zip CN).take i).filter fun p => decide (p.1 ≠ 0)).map fun p => tmS p.1 p.2).map PyData.str ++ [PyData.str z] = ((((r.zip CN).take (i + 1)).filter fun p => decide (p.1 ≠ 0)).map fun p => tmS p.1 p.2).map PyData.str := fun z h0 hz => by
      rw [tk, List.filter_cons, if_pos (decide_eq_true (by omega)), hz, List.map_append, List.map_append]
      rfl
    by_cases h0 : ((p.1 : Nat) : Int) > 0
    · rw [decide_eq_true h0, if_pos rfl]
      by_cases h1 : ((p.1 : Nat) : Int) > 1
      · rw [decide_eq_true h1, if_pos rfl]
        refine ⟨log99 hp9, sz6 (by show (iS p.1).length + _ ≤ _; omega), few, rfl, .d (.int (p.1 : Nat)), .d (.str p.2), rfl, ?_, trivial⟩
        rw [adv _ (by omega) (by unfold tmS; rw [if_pos (by omega)]; rfl)]
      · rw [decide_eq_false h1, if_neg (by decide)]
        refine ⟨sz6 (by have : (Str.ofString "").length = 0 := rfl; omega), few, rfl, .d (.int (p.1 : Nat)), .d (.str p.2), rfl, ?_, trivial⟩
        rw [adv _ (by omega) (by unfold tmS; rw [if_neg (by omega)])]
    · rw [decide_eq_false h0, if_neg (by decide)]
      refine ⟨.d (.int (p.1 : Nat)), .d (.str p.2), rfl, ?_, trivial⟩
      rw [tk, List.filter_cons, if_neg (by rw [decide_eq_false (by omega)]; decide), List.filter_nil, List.append_nil]
  · subst e1 e2
    have e : (((((r.zip CN).take ((r.zip CN).map fun p : Nat × Str => PyData.tuple [.int (p.1 : Nat), .str p.2]).length).filter fun p => decide (p.1 ≠ 0)).map fun p => tmS p.1 p.2).map PyData.str) = (tmsS (a :: r)).map PyData.str := by
      rw [List.length_map, List.take_length]
      rfl
    rw [e]
    simp (config := { maxSteps := 1000000 }) only [diZipC, diZipS, qStr_i, dSeq, dSet, dSetL, dRet, dRetO, dRetL, dIfS, dNext, dApp, dSetIx, dVar, dC, dOp, dFn, dFnL, dCons, dNil, dArg, dArgV, onD, datas, dTup, dLst, dLstL, dOfL, dAddL, dMulL, dIf, dTest, dTru, dNot, dAnd, dOr, dNotV, dAndV, dOrV, dSl, dPart, dNoPart, dCall, dMt, qAdd_i, qAdd_s, qAdd_t, qAdd_l, qSub_i, qDiv_i, qMod_i, qPow_i, qMul_i, qMul_s, qMul_t, qMul_l, qLt_i, qLe_i, qGt_i, qGe_i, qIx_l, qIx_t, qIx_s, qSl_l, qSl_t, qSl_s, qLen_l, qLen_t, qLen_s, qInt_i, qInt_b, qMin_i, qMax_i, qTup_l, qTup_t, qLst_l, qLst_t, qTru_n, qTru_b, qTru_i, qTru_s, qTru_l, qTru_t, qSum_l, qAny_l, qAny_t, qJoin_l, qCount_s, qEq_e, qNe_e, qRepr_e, dAsgT, dNeg, qNeg_i, dgTup, dgCons, dgName, dgNil, dPar, diR1, diOwn, diSeq, diL, diZip, diZipM, diVar, dParL, startS, toS, List.map_cons, List.map_nil, List.length_cons, List.length_nil, List.replicate, List.cons_append, List.nil_append, List.append_nil, List.getElem?_cons_zero, List.getElem?_cons_succ, List.set_cons_zero, List.set_cons_succ, Nat.reduceSub, Nat.reduceAdd, wipeS, canD, if_true, if_false, ite_true, ite_false, Bool.false_eq_true, PyData.bool.injEq, exists_eq_left', exists_eq_left, shp_i, shp_s, shp_b, shp_n, shp_e, shp_z, eqv_tt, eqv_lt, eqv_i, true_and, ix0, ix1, ix2, Option.some.injEq, PyData.tuple.injEq, PyData.list.injEq, PyData.int.injEq, PyData.str.injEq, S.own.injEq]
    have en : PyData.eqv (.list ((tmsS (a :: r)).map PyData.str)) (.list []) = (tmsS (a :: r)).isEmpty := by
      cases tmsS (a :: r) <;> simp [PyData.eqv, PyData.eqvAll]
    rw [en]
    by_cases h0 : ((a : Nat) : Int) > 0
    · rw [decide_eq_true h0, if_pos rfl]
      refine put ?_
      unfold allS
      rw [if_pos (.inl (by show a ≠ 0; omega))]
      rfl
    · rw [decide_eq_false h0, if_neg (by decide)]
      refine ⟨Nat.zero_le _, okD_strs _, ?_⟩
      by_cases h1 : tmsS (a :: r) = []
      · rw [if_pos (by rw [h1]; rfl)]
        refine put ?_
        unfold allS
        rw [if_pos (.inr h1)]
        rfl
      · rw [if_neg (by rw [List.isEmpty_iff]; exact h1)]
        refine join _ ?_
        unfold allS
        rw [if_neg]
        rintro (h | h)
        · exact h (by show a = 0; omega)
        · exact h1 h
end
end Law

namespace Law
open PySem PySem.Spec PyProof.Rows L2 Ev
/-! ### texts of programs -/
mutual
def wr : Part → Str
  | .text z => z
  | .loop f ps => Str.ofString "(" ++ fmS f ++ Str.ofString ":" ++ wrA ps ++ Str.ofString ")"
def wrA : List Part → Str
  | [] => Str.ofString ""
  | p :: r => wr p ++ wrA r
end
def szB : Nat → Nat
  | 0 => 4
  | d + 1 => 20 + 2 * szB d
theorem szB_step (d : Nat) : szB d ≤ szB (d + 1) := by rw [szB]; omega
theorem szB_mono {d e : Nat} (h : d ≤ e) : szB d ≤ szB e := by
  induction e with
  | zero => rw [Nat.le_zero.mp h]; exact Nat.le_refl _
  | succ e ih =>
    rcases Nat.lt_or_ge d (e + 1) with h1 | h1
    · exact Nat.le_trans (ih (by omega)) (szB_step e)
    · rw [show d = e + 1 by omega]; exact Nat.le_refl _
mutual
theorem wr_len {k : Nat} : ∀ (p : Part) (free : Bool), Good k free p → (wr p).length ≤ szB p.dep
  | .text z, _, h => h.1
  | .loop f ps, free, h => by
    have h1 := wrA_len ps _ h.2.2.2.2.2
    have h2 : (fmS f).length ≤ 16 := fmS_len h.2.1
    have hl : ps.length ≤ 2 := h.2.2.2.2.1
    have l1 : (Str.ofString "(").length = 1 := by decide +kernel
    have l2 : (Str.ofString ":").length = 1 := by decide +kernel
    have l3 : (Str.ofString ")").length = 1 := by decide +kernel
    have h3 : ps.length * szB (depAll ps) ≤ 2 * szB (depAll ps) := Nat.mul_le_mul_right _ hl
    rw [wr, app_lenS, app_lenS, app_lenS, app_lenS, l1, l2, l3, Part.dep, szB]
    omega
theorem wrA_len {k : Nat} : ∀ (ps : List Part) (free : Bool), GoodAll k free ps → (wrA ps).length ≤ ps.length * szB (depAll ps)
  | [], _, _ => Nat.zero_le _
  | p :: r, free, h => by
    have h1 := wr_len p free h.1
    have h2 := wrA_len r free h.2
    have h3 : szB p.dep ≤ szB (depAll (p :: r)) := szB_mono (Nat.le_max_left _ _)
    have h4 : szB (depAll r) ≤ szB (depAll (p :: r)) := szB_mono (Nat.le_max_right _ _)
    have h5 : r.length * szB (depAll r) ≤ r.length * szB (depAll (p :: r)) := Nat.mul_le_mul_left _ h4
    rw [wrA, app_lenS, List.length_cons, Nat.add_mul]
    omega
end
theorem wrA_860 {k : Nat} {ps : List Part} {free : Bool} (h : GoodAll k free ps) (hd : depAll ps ≤ 3) (hl : ps.length ≤ 5) : (wrA ps).length ≤ 860 := by
  have h1 := wrA_len ps free h
  have h2 : szB (depAll ps) ≤ 172 := szB_mono (e := 3) hd
  have h3 : ps.length * szB (depAll ps) ≤ 5 * 172 := Nat.mul_le_mul hl h2
  omega
theorem str_app_nil (x : Str) : x ++ Str.ofString "" = x := str_ext (by rw [app_list]; exact List.append_nil _)
theorem str_nil_app (x : Str) : Str.ofString "" ++ x = x := str_ext (by rw [app_list]; rfl)
theorem str_app_assoc (x y z : Str) : x ++ y ++ z = x ++ (y ++ z) := str_ext (by rw [app_list, app_list, app_list, app_list, List.append_assoc])
theorem wrA_app : ∀ a b : List Part, wrA (a ++ b) = wrA a ++ wrA b
  | [], b => (str_nil_app _).symm
  | p :: r, b => by rw [List.cons_append, wrA, wrA, wrA_app r b, str_app_assoc]
theorem wr_join (ps : List Part) : Txt.join (Str.ofString "") (ps.map wr) = wrA ps := str_ext (by
  rw [show Txt.join (Str.ofString "") (ps.map wr) = Txt.join "" (ps.map wr) from rfl, Ev.join_list, List.map_map]
  induction ps with
  | nil => rfl
  | cons q r ih => rw [List.map_cons, List.flatten_cons, ih, wrA, app_list]; rfl)
theorem wr_sum (ps : List Part) : ((ps.map wr).map (·.length)).sum = (wrA ps).length := by
  induction ps with
  | nil => rfl
  | cons q r ih => rw [List.map_cons, List.map_cons, List.sum_cons, ih, wrA, app_lenS]
section
variable {P : Program} {w : World} {K : PySem.W.Frag} {mg : Str → Option Value} {base : Heap}
def F_ptd (D : Nat) : DF := fun as n Q => ∃ (k : Nat) (free : Bool) (p : Part), as = [.d p.data] ∧ Good k free p ∧ k ≤ 3 ∧ p.dep < D ∧ p.dep ≤ 3 ∧ Q (.str (wr p)) n
def F_pst (D : Nat) : DF := fun as n Q => ∃ (k : Nat) (free : Bool) (ps : List Part), as = [.d (.tuple (dataAll ps))] ∧ GoodAll k free ps ∧ k ≤ 3 ∧ depAll ps < D ∧ depAll ps ≤ 3 ∧ ps.length ≤ 5 ∧ Q (.str (wrA ps)) n
theorem c_ptd_step {D l : Nat} (T : Txt K mg "part_told" s_part_told P_part_told) (B : Blt mg) (C_form_text : Cal P w K mg base "form_text" P_form_text 2 (spD F_fm)) (C_parts_text : Cal P w K mg base "parts_text" P_parts_text (2 + l) (spD (F_pst D))) : Cal P w K mg base "part_told" P_part_told (2 + l + 1) (spD (F_ptd (D + 1))) := by
  refine T.def sc_part_told (fun as n Q h => by obtain ⟨k, free, p, rfl, _⟩ := h; rfl) (fun f cdv A o s H E hr hg => ⟨_, (b_cons (s_if (lt_cmp (k_eq (K := K) (by rfl) hr.units) (k_ix (K := K) (by rfl) (lv 0) l_int) l_str (nomark _)) (b_one (s_ret (k_ix (K := K) (by rfl) (lv 0) l_int))) b_nil)
  (b_one (s_ret (k_add (K := K) (by rfl) (k_add (K := K) (by rfl) (k_add (K := K) (by rfl) (k_add (K := K) (by rfl) l_str (l_cal C_form_text (hr.mono (by omega)) hg (by rfl) (a_cons (g_ (k_ix (K := K) (by rfl) (lv 0) l_int)) a_nil))) l_str) (l_cal C_parts_text (hr.mono (by omega)) hg (by rfl) (a_cons (g_ (k_ix (K := K) (by rfl) (lv 0) l_int)) a_nil))) l_str))))⟩) (fun as n Q h => ?_)
  obtain ⟨k, free, p, rfl, hp, hk, hD, hd3, hq⟩ := h
  cases p with
  | text z =>
    simp only [Part.data]
    simp (config := { maxSteps := 1000000 }) only [diZipC, diZipS, qStr_i, dSeq, dSet, dSetL, dRet, dRetO, dRetL, dIfS, dNext, dApp, dSetIx, dVar, dC, dOp, dFn, dFnL, dCons, dNil, dArg, dArgV, onD, datas, dTup, dLst, dLstL, dOfL, dAddL, dMulL, dIf, dTest, dTru, dNot, dAnd, dOr, dNotV, dAndV, dOrV, dSl, dPart, dNoPart, dCall, dMt, qAdd_i, qAdd_s, qAdd_t, qAdd_l, qSub_i, qDiv_i, qMod_i, qPow_i, qMul_i, qMul_s, qMul_t, qMul_l, qLt_i, qLe_i, qGt_i, qGe_i, qIx_l, qIx_t, qIx_s, qSl_l, qSl_t, qSl_s, qLen_l, qLen_t, qLen_s, qInt_i, qInt_b, qMin_i, qMax_i, qTup_l, qTup_t, qLst_l, qLst_t, qTru_n, qTru_b, qTru_i, qTru_s, qTru_l, qTru_t, qSum_l, qAny_l, qAny_t, qJoin_l, qCount_s, qEq_e, qNe_e, qRepr_e, dAsgT, dNeg, qNeg_i, dgTup, dgCons, dgName, dgNil, dPar, diR1, diOwn, diSeq, diL, diZip, diZipM, diVar, dParL, startS, toS, List.map_cons, List.map_nil, List.length_cons, List.length_nil, List.replicate, List.cons_append, List.nil_append, List.append_nil, List.getElem?_cons_zero, List.getElem?_cons_succ, List.set_cons_zero, List.set_cons_succ, Nat.reduceSub, Nat.reduceAdd, wipeS, canD, if_true, if_false, ite_true, ite_false, Bool.false_eq_true, PyData.bool.injEq, exists_eq_left', exists_eq_left, shp_i, shp_s, shp_b, shp_n, shp_e, shp_z, eqv_tt, eqv_lt, eqv_i, true_and, ix0, ix1, ix2, Option.some.injEq, PyData.tuple.injEq, PyData.list.injEq, PyData.int.injEq, PyData.str.injEq, S.own.injEq]
    exact hq
  | loop f ps =>
    obtain ⟨g1, g2, g3, g4, g5, g6⟩ := hp
    have hd : depAll ps + 1 < D + 1 := hD
    have hd3' : depAll ps + 1 ≤ 3 := hd3
    have hf := fmS_len g2
    have hw := wrA_860 g6 (by omega) (by omega)
    have l1 : (Str.ofString "(").length = 1 := by decide +kernel
    have l2 : (Str.ofString ":").length = 1 := by decide +kernel
    have l3 : (Str.ofString ")").length = 1 := by decide +kernel
    simp only [Part.data]
    simp (config := { maxSteps := 1000000 }) only [diZipC, diZipS, qStr_i, dSeq, dSet, dSetL, dRet, dRetO, dRetL, dIfS, dNext, dApp, dSetIx, dVar, dC, dOp, dFn, dFnL, dCons, dNil, dArg, dArgV, onD, datas, dTup, dLst, dLstL, dOfL, dAddL, dMulL, dIf, dTest, dTru, dNot, dAnd, dOr, dNotV, dAndV, dOrV, dSl, dPart, dNoPart, dCall, dMt, qAdd_i, qAdd_s, qAdd_t, qAdd_l, qSub_i, qDiv_i, qMod_i, qPow_i, qMul_i, qMul_s, qMul_t, qMul_l, qLt_i, qLe_i, qGt_i, qGe_i, qIx_l, qIx_t, qIx_s, qSl_l, qSl_t, qSl_s, qLen_l, qLen_t, qLen_s, qInt_i, qInt_b, qMin_i, qMax_i, qTup_l, qTup_t, qLst_l, qLst_t, qTru_n, qTru_b, qTru_i, qTru_s, qTru_l, qTru_t, qSum_l, qAny_l, qAny_t, qJoin_l, qCount_s, qEq_e, qNe_e, qRepr_e, dAsgT, dNeg, qNeg_i, dgTup, dgCons, dgName, dgNil, dPar, diR1, diOwn, diSeq, diL, diZip, diZipM, diVar, dParL, startS, toS, List.map_cons, List.map_nil, List.length_cons, List.length_nil, List.replicate, List.cons_append, List.nil_append, List.append_nil, List.getElem?_cons_zero, List.getElem?_cons_succ, List.set_cons_zero, List.set_cons_succ, Nat.reduceSub, Nat.reduceAdd, wipeS, canD, if_true, if_false, ite_true, ite_false, Bool.false_eq_true, PyData.bool.injEq, exists_eq_left', exists_eq_left, shp_i, shp_s, shp_b, shp_n, shp_e, shp_z, eqv_tt, eqv_lt, eqv_i, true_and, ix0, ix1, ix2, Option.some.injEq, PyData.tuple.injEq, PyData.list.injEq, PyData.int.injEq, PyData.str.injEq, S.own.injEq]
    refine ⟨k, f, rfl, g1, hk, g2, sz6 (by omega), sz6 (by rw [app_lenS]; omega), k, _, ps, rfl, g6, hk, by omega, by omega, by omega, sz6 (by rw [app_lenS, app_lenS]; omega), sz6 (by rw [app_lenS, app_lenS, app_lenS]; omega), ?_⟩
    exact hq
theorem c_pst_step {D l : Nat} (T : Txt K mg "parts_text" s_parts_text P_parts_text) (B : Blt mg) (C_part_told : Cal P w K mg base "part_told" P_part_told (2 + l) (spD (F_ptd D))) : Cal P w K mg base "parts_text" P_parts_text (2 + l + 1) (spD (F_pst D)) := by
  refine T.def sc_parts_text (fun as n Q h => by obtain ⟨k, free, ps, rfl, _⟩ := h; rfl) (fun f cdv A o s H E hr hg => ⟨_, (b_one (s_ret (k_join (K := K) (by rfl) l_str (l_L (f_lc (own := [("part", 1)]) rfl sc_parts_text.nd (ic_ (k_seq (K := K) (by rfl) (lv 0))) (blkOk_by (own := [("part", 1)]) (N := N_parts_text) (sc := defScope s_parts_text) (by decide +kernel)) (fun _ _ _ _ _ => (g_name (i := 1) sc_parts_text.nd rfl (Or.inl rfl))) (fun _ _ _ _ _ => ts_nil) (fun _ _ _ _ _ => (l_cal C_part_told (hr.mono (by omega)) hg (by rfl) (a_cons (gv 1) a_nil))))))))⟩) (fun as n Q h => ?_)
  obtain ⟨k, free, ps, rfl, hp, hk, hD, hd3, hl, hq⟩ := h
  simp only [dRet]
  simp (config := { maxSteps := 1000000 }) only [diZipC, diZipS, qStr_i, dSeq, dSet, dSetL, dRet, dRetO, dRetL, dIfS, dNext, dApp, dSetIx, dVar, dC, dOp, dFn, dFnL, dCons, dNil, dArg, dArgV, onD, datas, dTup, dLst, dLstL, dOfL, dAddL, dMulL, dIf, dTest, dTru, dNot, dAnd, dOr, dNotV, dAndV, dOrV, dSl, dPart, dNoPart, dCall, dMt, qAdd_i, qAdd_s, qAdd_t, qAdd_l, qSub_i, qDiv_i, qMod_i, qPow_i, qMul_i, qMul_s, qMul_t, qMul_l, qLt_i, qLe_i, qGt_i, qGe_i, qIx_l, qIx_t, qIx_s, qSl_l, qSl_t, qSl_s, qLen_l, qLen_t, qLen_s, qInt_i, qInt_b, qMin_i, qMax_i, qTup_l, qTup_t, qLst_l, qLst_t, qTru_n, qTru_b, qTru_i, qTru_s, qTru_l, qTru_t, qSum_l, qAny_l, qAny_t, qJoin_l, qCount_s, qEq_e, qNe_e, qRepr_e, dAsgT, dNeg, qNeg_i, dgTup, dgCons, dgName, dgNil, dPar, diR1, diOwn, diSeq, diL, diZip, diZipM, diVar, dParL, startS, toS, List.map_cons, List.map_nil, List.length_cons, List.length_nil, List.replicate, List.cons_append, List.nil_append, List.append_nil, List.getElem?_cons_zero, List.getElem?_cons_succ, List.set_cons_zero, List.set_cons_succ, Nat.reduceSub, Nat.reduceAdd, wipeS, canD, if_true, if_false, ite_true, ite_false, Bool.false_eq_true, PyData.bool.injEq, exists_eq_left', exists_eq_left, shp_i, shp_s, shp_b, shp_n, shp_e, shp_z, eqv_tt, eqv_lt, eqv_i, true_and, ix0, ix1, ix2, Option.some.injEq, PyData.tuple.injEq, PyData.list.injEq, PyData.int.injEq, PyData.str.injEq, S.own.injEq]
  refine ⟨⟨_, rfl⟩, ?_⟩
  refine lc_mapA ps Part.data (fun p => .str (wr p)) n rfl (fun R hR => ?_) (sz6 (by omega)) (fun p hp' => ⟨rfl, fun R hR => ?_⟩) ?_
  · simp (config := { maxSteps := 1000000 }) only [diZipC, diZipS, qStr_i, dSeq, dSet, dSetL, dRet, dRetO, dRetL, dIfS, dNext, dApp, dSetIx, dVar, dC, dOp, dFn, dFnL, dCons, dNil, dArg, dArgV, onD, datas, dTup, dLst, dLstL, dOfL, dAddL, dMulL, dIf, dTest, dTru, dNot, dAnd, dOr, dNotV, dAndV, dOrV, dSl, dPart, dNoPart, dCall, dMt, qAdd_i, qAdd_s, qAdd_t, qAdd_l, qSub_i, qDiv_i, qMod_i, qPow_i, qMul_i, qMul_s, qMul_t, qMul_l, qLt_i, qLe_i, qGt_i, qGe_i, qIx_l, qIx_t, qIx_s, qSl_l, qSl_t, qSl_s, qLen_l, qLen_t, qLen_s, qInt_i, qInt_b, qMin_i, qMax_i, qTup_l, qTup_t, qLst_l, qLst_t, qTru_n, qTru_b, qTru_i, qTru_s, qTru_l, qTru_t, qSum_l, qAny_l, qAny_t, qJoin_l, qCount_s, qEq_e, qNe_e, qRepr_e, dAsgT, dNeg, qNeg_i, dgTup, dgCons, dgName, dgNil, dPar, diR1, diOwn, diSeq, diL, diZip, diZipM, diVar, dParL, startS, toS, List.map_cons, List.map_nil, List.length_cons, List.length_nil, List.replicate, List.cons_append, List.nil_append, List.append_nil, List.getElem?_cons_zero, List.getElem?_cons_succ, List.set_cons_zero, List.set_cons_succ, Nat.reduceSub, Nat.reduceAdd, wipeS, canD, if_true, if_false, ite_true, ite_false, Bool.false_eq_true, PyData.bool.injEq, exists_eq_left', exists_eq_left, shp_i, shp_s, shp_b, shp_n, shp_e, shp_z, eqv_tt, eqv_lt, eqv_i, true_and, ix0, ix1, ix2, Option.some.injEq, PyData.tuple.injEq, PyData.list.injEq, PyData.int.injEq, PyData.str.injEq, S.own.injEq]
    rw [← dataAll_map] at hR
    exact ⟨rfl, .inl (by simpa [NL] using NL_datas ps), hR⟩
  · have hdp : p.dep ≤ depAll ps := depAll_le.mp (Nat.le_refl _) p hp'
    simp (config := { maxSteps := 1000000 }) only [diZipC, diZipS, qStr_i, dSeq, dSet, dSetL, dRet, dRetO, dRetL, dIfS, dNext, dApp, dSetIx, dVar, dC, dOp, dFn, dFnL, dCons, dNil, dArg, dArgV, onD, datas, dTup, dLst, dLstL, dOfL, dAddL, dMulL, dIf, dTest, dTru, dNot, dAnd, dOr, dNotV, dAndV, dOrV, dSl, dPart, dNoPart, dCall, dMt, qAdd_i, qAdd_s, qAdd_t, qAdd_l, qSub_i, qDiv_i, qMod_i, qPow_i, qMul_i, qMul_s, qMul_t, qMul_l, qLt_i, qLe_i, qGt_i, qGe_i, qIx_l, qIx_t, qIx_s, qSl_l, qSl_t, qSl_s, qLen_l, qLen_t, qLen_s, qInt_i, qInt_b, qMin_i, qMax_i, qTup_l, qTup_t, qLst_l, qLst_t, qTru_n, qTru_b, qTru_i, qTru_s, qTru_l, qTru_t, qSum_l, qAny_l, qAny_t, qJoin_l, qCount_s, qEq_e, qNe_e, qRepr_e, dAsgT, dNeg, qNeg_i, dgTup, dgCons, dgName, dgNil, dPar, diR1, diOwn, diSeq, diL, diZip, diZipM, diVar, dParL, startS, toS, List.map_cons, List.map_nil, List.length_cons, List.length_nil, List.replicate, List.cons_append, List.nil_append, List.append_nil, List.getElem?_cons_zero, List.getElem?_cons_succ, List.set_cons_zero, List.set_cons_succ, Nat.reduceSub, Nat.reduceAdd, wipeS, canD, if_true, if_false, ite_true, ite_false, Bool.false_eq_true, PyData.bool.injEq, exists_eq_left', exists_eq_left, shp_i, shp_s, shp_b, shp_n, shp_e, shp_z, eqv_tt, eqv_lt, eqv_i, true_and, ix0, ix1, ix2, Option.some.injEq, PyData.tuple.injEq, PyData.list.injEq, PyData.int.injEq, PyData.str.injEq, S.own.injEq]
    exact ⟨k, free, p, rfl, GoodAll_iff.mp hp p hp', hk, by omega, by omega, hR⟩
  · refine ⟨ps.map wr, by rw [List.map_map]; rfl, ?_, ?_⟩
    · rw [wr_sum]
      have := wrA_860 hp hd3 hl
      show _ + _ * 0 ≤ _
      omega
    · rw [wr_join]
      exact hq
theorem parts_texts (T1 : Txt K mg "part_told" s_part_told P_part_told) (T2 : Txt K mg "parts_text" s_parts_text P_parts_text) (B : Blt mg) (C1 : Cal P w K mg base "form_text" P_form_text 2 (spD F_fm)) :
    ∀ D : Nat, Cal P w K mg base "parts_text" P_parts_text (2 + 2 * D) (spD (F_pst D))
  | 0 => cal_none T2 fun as n Q ⟨_, _, _, _, _, _, h, _⟩ => absurd h (Nat.not_lt_zero _)
  | D + 1 => c_pst_step T2 B (l := 2 * D + 1) (c_ptd_step T1 B C1 (parts_texts T1 T2 B C1 D))
def F_pgt : DF := fun as n Q => ∃ (k : Nat) (ps : List Part), as = [.d (progD k ps)] ∧ GoodAll k true ps ∧ k ≤ 3 ∧ depAll ps ≤ 3 ∧ ps.length ≤ 5 ∧ Q (.str (wrA ps)) n
theorem c_pgt (T : Txt K mg "program_text" s_program_text P_program_text) (B : Blt mg) (C_parts_text : Cal P w K mg base "parts_text" P_parts_text 10 (spD (F_pst 4))) : Cal P w K mg base "program_text" P_program_text 11 (spD F_pgt) := by
  refine T.def sc_program_text (fun as n Q h => by obtain ⟨k, ps, rfl, _⟩ := h; rfl) (fun f cdv A o s H E hr hg => ⟨_, (b_one (s_ret (l_cal C_parts_text (hr.mono (by omega)) hg (by rfl) (a_cons (g_ (k_ix (K := K) (by rfl) (lv 0) l_int)) a_nil))))⟩) (fun as n Q h => ?_)
  obtain ⟨k, ps, rfl, hp, hk, hd, hl, hq⟩ := h
  unfold progD
  simp (config := { maxSteps := 1000000 }) only [diZipC, diZipS, qStr_i, dSeq, dSet, dSetL, dRet, dRetO, dRetL, dIfS, dNext, dApp, dSetIx, dVar, dC, dOp, dFn, dFnL, dCons, dNil, dArg, dArgV, onD, datas, dTup, dLst, dLstL, dOfL, dAddL, dMulL, dIf, dTest, dTru, dNot, dAnd, dOr, dNotV, dAndV, dOrV, dSl, dPart, dNoPart, dCall, dMt, qAdd_i, qAdd_s, qAdd_t, qAdd_l, qSub_i, qDiv_i, qMod_i, qPow_i, qMul_i, qMul_s, qMul_t, qMul_l, qLt_i, qLe_i, qGt_i, qGe_i, qIx_l, qIx_t, qIx_s, qSl_l, qSl_t, qSl_s, qLen_l, qLen_t, qLen_s, qInt_i, qInt_b, qMin_i, qMax_i, qTup_l, qTup_t, qLst_l, qLst_t, qTru_n, qTru_b, qTru_i, qTru_s, qTru_l, qTru_t, qSum_l, qAny_l, qAny_t, qJoin_l, qCount_s, qEq_e, qNe_e, qRepr_e, dAsgT, dNeg, qNeg_i, dgTup, dgCons, dgName, dgNil, dPar, diR1, diOwn, diSeq, diL, diZip, diZipM, diVar, dParL, startS, toS, List.map_cons, List.map_nil, List.length_cons, List.length_nil, List.replicate, List.cons_append, List.nil_append, List.append_nil, List.getElem?_cons_zero, List.getElem?_cons_succ, List.set_cons_zero, List.set_cons_succ, Nat.reduceSub, Nat.reduceAdd, wipeS, canD, if_true, if_false, ite_true, ite_false, Bool.false_eq_true, PyData.bool.injEq, exists_eq_left', exists_eq_left, shp_i, shp_s, shp_b, shp_n, shp_e, shp_z, eqv_tt, eqv_lt, eqv_i, true_and, ix0, ix1, ix2, Option.some.injEq, PyData.tuple.injEq, PyData.list.injEq, PyData.int.injEq, PyData.str.injEq, S.own.injEq]
  exact ⟨k, true, ps, rfl, hp, hk, by omega, hd, hl, hq⟩
theorem c_lw_step {D : Nat} (T : Txt K mg "_law_written" s__law_written P__law_written) (B : Blt mg) (C__law_form_text : Cal P w K mg base "_law_form_text" P__law_form_text 2 (spD F_lfm)) (C__law_written : Cal P w K mg base "_law_written" P__law_written (2 + D) (spD (F_pst D))) : Cal P w K mg base "_law_written" P__law_written (2 + D + 1) (spD (F_pst (D + 1))) := by
  refine T.def sc__law_written (fun as n Q h => by obtain ⟨k, free, ps, rfl, _⟩ := h; rfl) (fun f cdv A o s H E hr hg => ⟨_, (b_cons (s_set (i := 1) sc__law_written.nd rfl (Or.inl rfl) l_str)
  (b_cons (s_for PassesOwn.never rfl (k_seq (K := K) (by rfl) (lv 0)) (g_name (i := 2) sc__law_written.nd rfl (Or.inl rfl)) (b_one (s_if (lt_cmp (k_eq (K := K) (by rfl) hr.units) (k_ix (K := K) (by rfl) (lv 2) l_int) l_str (nomark _)) (b_one (s_set (i := 1) sc__law_written.nd rfl (Or.inl rfl) (k_add (K := K) (by rfl) (lv 1) (k_ix (K := K) (by rfl) (lv 2) l_int)))) (b_cons (s_set (i := 3) sc__law_written.nd rfl (Or.inl rfl) (l_cal C__law_written (hr.mono (by omega)) hg (by rfl) (a_cons (g_ (k_ix (K := K) (by rfl) (lv 2) l_int)) a_nil)))
  (b_one (s_set (i := 1) sc__law_written.nd rfl (Or.inl rfl) (k_add (K := K) (by rfl) (k_add (K := K) (by rfl) (k_add (K := K) (by rfl) (k_add (K := K) (by rfl) (k_add (K := K) (by rfl) (lv 1) l_str) (l_cal C__law_form_text (hr.mono (by omega)) hg (by rfl) (a_cons (g_ (k_ix (K := K) (by rfl) (lv 2) l_int)) a_nil))) l_str) (lv 3)) l_str)))))))
  (b_one (s_ret (lv 1)))))⟩) (fun as n Q h => ?_)
  obtain ⟨k, free, ps, rfl, hp, hk, hD, hd3, hl, hq⟩ := h
  simp (config := { maxSteps := 1000000 }) only [diZipC, diZipS, qStr_i, dSeq, dSet, dSetL, dRet, dRetO, dRetL, dIfS, dNext, dApp, dSetIx, dVar, dC, dOp, dFn, dFnL, dCons, dNil, dArg, dArgV, onD, datas, dTup, dLst, dLstL, dOfL, dAddL, dMulL, dIf, dTest, dTru, dNot, dAnd, dOr, dNotV, dAndV, dOrV, dSl, dPart, dNoPart, dCall, dMt, qAdd_i, qAdd_s, qAdd_t, qAdd_l, qSub_i, qDiv_i, qMod_i, qPow_i, qMul_i, qMul_s, qMul_t, qMul_l, qLt_i, qLe_i, qGt_i, qGe_i, qIx_l, qIx_t, qIx_s, qSl_l, qSl_t, qSl_s, qLen_l, qLen_t, qLen_s, qInt_i, qInt_b, qMin_i, qMax_i, qTup_l, qTup_t, qLst_l, qLst_t, qTru_n, qTru_b, qTru_i, qTru_s, qTru_l, qTru_t, qSum_l, qAny_l, qAny_t, qJoin_l, qCount_s, qEq_e, qNe_e, qRepr_e, dAsgT, dNeg, qNeg_i, dgTup, dgCons, dgName, dgNil, dPar, diR1, diOwn, diSeq, diL, diZip, diZipM, diVar, dParL, startS, toS, List.map_cons, List.map_nil, List.length_cons, List.length_nil, List.replicate, List.cons_append, List.nil_append, List.append_nil, List.getElem?_cons_zero, List.getElem?_cons_succ, List.set_cons_zero, List.set_cons_succ, Nat.reduceSub, Nat.reduceAdd, wipeS, canD, if_true, if_false, ite_true, ite_false, Bool.false_eq_true, PyData.bool.injEq, exists_eq_left', exists_eq_left, shp_i, shp_s, shp_b, shp_n, shp_e, shp_z, eqv_tt, eqv_lt, eqv_i, true_and, ix0, ix1, ix2, Option.some.injEq, PyData.tuple.injEq, PyData.list.injEq, PyData.int.injEq, PyData.str.injEq, S.own.injEq]
  have l1 : (Str.ofString "(").length = 1 := by decide +kernel
  have l2 : (Str.ofString ":").length = 1 := by decide +kernel
  have l3 : (Str.ofString ")").length = 1 := by decide +kernel
  refine ⟨.inl rfl, for_by (dataAll ps) (fun R hR => ?_) ⟨fun i ss n' => ∃ s2 s3 : S, noOwn [s2, s3] = true ∧ ss = [.d (.tuple (dataAll ps)), .d (.str (wrA (ps.take i))), s2, s3] ∧ n' = n, ⟨_, _, rfl, rfl, rfl⟩, fun i d ss' n' hd ⟨s2, s3, ho, e1, e2⟩ => ?_, fun ss' n' ⟨s2, s3, ho, e1, e2⟩ => ?_⟩⟩
  · simp (config := { maxSteps := 1000000 }) only [diZipC, diZipS, qStr_i, dSeq, dSet, dSetL, dRet, dRetO, dRetL, dIfS, dNext, dApp, dSetIx, dVar, dC, dOp, dFn, dFnL, dCons, dNil, dArg, dArgV, onD, datas, dTup, dLst, dLstL, dOfL, dAddL, dMulL, dIf, dTest, dTru, dNot, dAnd, dOr, dNotV, dAndV, dOrV, dSl, dPart, dNoPart, dCall, dMt, qAdd_i, qAdd_s, qAdd_t, qAdd_l, qSub_i, qDiv_i, qMod_i, qPow_i, qMul_i, qMul_s, qMul_t, qMul_l, qLt_i, qLe_i, qGt_i, qGe_i, qIx_l, qIx_t, qIx_s, qSl_l, qSl_t, qSl_s, qLen_l, qLen_t, qLen_s, qInt_i, qInt_b, qMin_i, qMax_i, qTup_l, qTup_t, qLst_l, qLst_t, qTru_n, qTru_b, qTru_i, qTru_s, qTru_l, qTru_t, qSum_l, qAny_l, qAny_t, qJoin_l, qCount_s, qEq_e, qNe_e, qRepr_e, dAsgT, dNeg, qNeg_i, dgTup, dgCons, dgName, dgNil, dPar, diR1, diOwn, diSeq, diL, diZip, diZipM, diVar, dParL, startS, toS, List.map_cons, List.map_nil, List.length_cons, List.length_nil, List.replicate, List.cons_append, List.nil_append, List.append_nil, List.getElem?_cons_zero, List.getElem?_cons_succ, List.set_cons_zero, List.set_cons_succ, Nat.reduceSub, Nat.reduceAdd, wipeS, canD, if_true, if_false, ite_true, ite_false, Bool.false_eq_true, PyData.bool.injEq, exists_eq_left', exists_eq_left, shp_i, shp_s, shp_b, shp_n, shp_e, shp_z, eqv_tt, eqv_lt, eqv_i, true_and, ix0, ix1, ix2, Option.some.injEq, PyData.tuple.injEq, PyData.list.injEq, PyData.int.injEq, PyData.str.injEq, S.own.injEq]
    exact ⟨rfl, .inl (by simpa [NL] using NL_datas ps), hR⟩
  · subst e1 e2
    rw [dataAll_map, List.getElem?_map] at hd
    obtain ⟨p, hp', rfl⟩ := Option.map_eq_some_iff.mp hd
    have hm := List.mem_of_getElem? hp'
    have hg := GoodAll_iff.mp hp p hm
    have hdp : p.dep ≤ depAll ps := depAll_le.mp (Nat.le_refl _) p hm
    have tk : wrA (ps.take (i + 1)) = wrA (ps.take i) ++ wr p := by
      rw [List.take_add_one, hp', wrA_app]
      show _ ++ (wr p ++ _) = _
      rw [wrA, str_app_nil]
    have hi : (wrA (ps.take i)).length ≤ 860 := by
      have e : (wrA ps).length = (wrA (ps.take i)).length + (wrA (ps.drop i)).length := by rw [← app_lenS, ← wrA_app, List.take_append_drop]
      have := wrA_860 hp hd3 hl
      omega
    have ho1 : noOwn [s3] = true := noOwn_drop ho 1
    cases p with
    | text z =>
      have hz : z.length ≤ 4 := hg.1
      simp only [Part.data]
      simp (config := { maxSteps := 1000000 }) only [diZipC, diZipS, qStr_i, dSeq, dSet, dSetL, dRet, dRetO, dRetL, dIfS, dNext, dApp, dSetIx, dVar, dC, dOp, dFn, dFnL, dCons, dNil, dArg, dArgV, onD, datas, dTup, dLst, dLstL, dOfL, dAddL, dMulL, dIf, dTest, dTru, dNot, dAnd, dOr, dNotV, dAndV, dOrV, dSl, dPart, dNoPart, dCall, dMt, qAdd_i, qAdd_s, qAdd_t, qAdd_l, qSub_i, qDiv_i, qMod_i, qPow_i, qMul_i, qMul_s, qMul_t, qMul_l, qLt_i, qLe_i, qGt_i, qGe_i, qIx_l, qIx_t, qIx_s, qSl_l, qSl_t, qSl_s, qLen_l, qLen_t, qLen_s, qInt_i, qInt_b, qMin_i, qMax_i, qTup_l, qTup_t, qLst_l, qLst_t, qTru_n, qTru_b, qTru_i, qTru_s, qTru_l, qTru_t, qSum_l, qAny_l, qAny_t, qJoin_l, qCount_s, qEq_e, qNe_e, qRepr_e, dAsgT, dNeg, qNeg_i, dgTup, dgCons, dgName, dgNil, dPar, diR1, diOwn, diSeq, diL, diZip, diZipM, diVar, dParL, startS, toS, List.map_cons, List.map_nil, List.length_cons, List.length_nil, List.replicate, List.cons_append, List.nil_append, List.append_nil, List.getElem?_cons_zero, List.getElem?_cons_succ, List.set_cons_zero, List.set_cons_succ, Nat.reduceSub, Nat.reduceAdd, wipeS, canD, if_true, if_false, ite_true, ite_false, Bool.false_eq_true, PyData.bool.injEq, exists_eq_left', exists_eq_left, shp_i, shp_s, shp_b, shp_n, shp_e, shp_z, eqv_tt, eqv_lt, eqv_i, true_and, ix0, ix1, ix2, Option.some.injEq, PyData.tuple.injEq, PyData.list.injEq, PyData.int.injEq, PyData.str.injEq, S.own.injEq]
      refine ⟨sz6 (by omega), .inl rfl, .d (.tuple [.str (Str.ofString "text"), .str z]), s3, ho1, ?_, trivial⟩
      rw [tk]
      rfl
    | loop f qs =>
      obtain ⟨g1, g2, g3, g4, g5, g6⟩ := hg
      have hd : depAll qs + 1 ≤ depAll ps := hdp
      have hf := fmS_len g2
      have hw := wrA_860 g6 (by omega) (by omega)
      simp only [Part.data]
      simp (config := { maxSteps := 1000000 }) only [diZipC, diZipS, qStr_i, dSeq, dSet, dSetL, dRet, dRetO, dRetL, dIfS, dNext, dApp, dSetIx, dVar, dC, dOp, dFn, dFnL, dCons, dNil, dArg, dArgV, onD, datas, dTup, dLst, dLstL, dOfL, dAddL, dMulL, dIf, dTest, dTru, dNot, dAnd, dOr, dNotV, dAndV, dOrV, dSl, dPart, dNoPart, dCall, dMt, qAdd_i, qAdd_s, qAdd_t, qAdd_l, qSub_i, qDiv_i, qMod_i, qPow_i, qMul_i, qMul_s, qMul_t, qMul_l, qLt_i, qLe_i, qGt_i, qGe_i, qIx_l, qIx_t, qIx_s, qSl_l, qSl_t, qSl_s, qLen_l, qLen_t, qLen_s, qInt_i, qInt_b, qMin_i, qMax_i, qTup_l, qTup_t, qLst_l, qLst_t, qTru_n, qTru_b, qTru_i, qTru_s, qTru_l, qTru_t, qSum_l, qAny_l, qAny_t, qJoin_l, qCount_s, qEq_e, qNe_e, qRepr_e, dAsgT, dNeg, qNeg_i, dgTup, dgCons, dgName, dgNil, dPar, diR1, diOwn, diSeq, diL, diZip, diZipM, diVar, dParL, startS, toS, List.map_cons, List.map_nil, List.length_cons, List.length_nil, List.replicate, List.cons_append, List.nil_append, List.append_nil, List.getElem?_cons_zero, List.getElem?_cons_succ, List.set_cons_zero, List.set_cons_succ, Nat.reduceSub, Nat.reduceAdd, wipeS, canD, if_true, if_false, ite_true, ite_false, Bool.false_eq_true, PyData.bool.injEq, exists_eq_left', exists_eq_left, shp_i, shp_s, shp_b, shp_n, shp_e, shp_z, eqv_tt, eqv_lt, eqv_i, true_and, ix0, ix1, ix2, Option.some.injEq, PyData.tuple.injEq, PyData.list.injEq, PyData.int.injEq, PyData.str.injEq, S.own.injEq]
      have ea : wrA (ps.take i) ++ Str.ofString "(" ++ fmS f ++ Str.ofString ":" ++ wrA qs ++ Str.ofString ")" = wrA (ps.take (i + 1)) := by
        rw [tk, wr]
        simp only [str_app_assoc]
      refine ⟨k, _, qs, rfl, g6, hk, by omega, by omega, by omega, .inl rfl, sz6 (by omega), k, f, rfl, g1, hk, g2, ?_⟩
      simp only [qAdd_s]
      refine ⟨sz6 (by rw [app_lenS]; omega), sz6 (by rw [app_lenS, app_lenS]; omega), sz6 (by rw [app_lenS, app_lenS, app_lenS]; omega), sz6 (by rw [app_lenS, app_lenS, app_lenS, app_lenS]; omega), .inl rfl, .d (.tuple [.str (Str.ofString "loop"), fmD f, .tuple (dataAll qs)]), .d (.str (wrA qs)), rfl, ?_, trivial⟩
      rw [ea]
  · subst e1 e2
    have e : ps.take (dataAll ps).length = ps := by rw [dataAll_map, List.length_map, List.take_length]
    rw [e]
    simp (config := { maxSteps := 1000000 }) only [diZipC, diZipS, qStr_i, dSeq, dSet, dSetL, dRet, dRetO, dRetL, dIfS, dNext, dApp, dSetIx, dVar, dC, dOp, dFn, dFnL, dCons, dNil, dArg, dArgV, onD, datas, dTup, dLst, dLstL, dOfL, dAddL, dMulL, dIf, dTest, dTru, dNot, dAnd, dOr, dNotV, dAndV, dOrV, dSl, dPart, dNoPart, dCall, dMt, qAdd_i, qAdd_s, qAdd_t, qAdd_l, qSub_i, qDiv_i, qMod_i, qPow_i, qMul_i, qMul_s, qMul_t, qMul_l, qLt_i, qLe_i, qGt_i, qGe_i, qIx_l, qIx_t, qIx_s, qSl_l, qSl_t, qSl_s, qLen_l, qLen_t, qLen_s, qInt_i, qInt_b, qMin_i, qMax_i, qTup_l, qTup_t, qLst_l, qLst_t, qTru_n, qTru_b, qTru_i, qTru_s, qTru_l, qTru_t, qSum_l, qAny_l, qAny_t, qJoin_l, qCount_s, qEq_e, qNe_e, qRepr_e, dAsgT, dNeg, qNeg_i, dgTup, dgCons, dgName, dgNil, dPar, diR1, diOwn, diSeq, diL, diZip, diZipM, diVar, dParL, startS, toS, List.map_cons, List.map_nil, List.length_cons, List.length_nil, List.replicate, List.cons_append, List.nil_append, List.append_nil, List.getElem?_cons_zero, List.getElem?_cons_succ, List.set_cons_zero, List.set_cons_succ, Nat.reduceSub, Nat.reduceAdd, wipeS, canD, if_true, if_false, ite_true, ite_false, Bool.false_eq_true, PyData.bool.injEq, exists_eq_left', exists_eq_left, shp_i, shp_s, shp_b, shp_n, shp_e, shp_z, eqv_tt, eqv_lt, eqv_i, true_and, ix0, ix1, ix2, Option.some.injEq, PyData.tuple.injEq, PyData.list.injEq, PyData.int.injEq, PyData.str.injEq, S.own.injEq]
    exact hq
theorem law_written (T : Txt K mg "_law_written" s__law_written P__law_written) (B : Blt mg) (C1 : Cal P w K mg base "_law_form_text" P__law_form_text 2 (spD F_lfm)) : ∀ D : Nat, Cal P w K mg base "_law_written" P__law_written (2 + D) (spD (F_pst D))
  | 0 => cal_none T fun as n Q ⟨_, _, _, _, _, _, h, _⟩ => absurd h (Nat.not_lt_zero _)
  | D + 1 => c_lw_step T B C1 (law_written T B C1 D)
end
end Law

namespace Law
open PySem PySem.Spec PyProof.Rows L2 Ev
/-! ### the deck made, the law's def called with the script -/
section
variable {P : Program} {w : World} {K : PySem.W.Frag} {mg : Str → Option Value} {base : Heap}
/-- the script in, the deck back -/
def spDeck (K : PySem.W.Frag) : Sp := fun vs H Q _ => ∃ (a : Addr) (ns : List Int), vs = [.ref a] ∧ SqL K H a (ns.map V.int) ∧ ns.length ≤ 63 ∧ ∀ (H' : Hp) (g : Gd), Same H H' → Deck g 0 H' → Hid g.h H' → Q (.ref g.dk) H'
theorem c_deck (T : Txt K mg "_law_deck" s__law_deck P__law_deck) (B : Blt mg) : Cal P w K mg base "_law_deck" P__law_deck 1 (spDeck K) := T.cal fun f fd U => by
  refine fnG_nox U sc__law_deck (fun vs H Q E q => by obtain ⟨a, ns, rfl, _⟩ := q; rfl) (fun cdv A o s H vs Q E hr hg q => ?_)
  refine ⟨_, PLB.ps (b_one (s_ret (l_lst (a_cons (g_ (l_callT (kb_list (K := K) (by rfl)) (by rfl) B.list (by decide +kernel) (a_cons (g_ (k_sl (K := K) (by rfl) (lv 0) o_none (o_some l_int))) a_nil))) (a_cons (g_ l_int) (a_cons (g_ l_int) (a_cons (g_ l_int) a_nil))))))), ?_⟩
  obtain ⟨a, ns, rfl, hS, hl, hq⟩ := q
  have hcut : cutV (ns.map V.int) none (some 63) = ns.map V.int := by
    unfold cutV
    rw [HT.sIx_none, List.drop_zero, Nat.sub_zero]
    exact List.take_of_length_le (by show _ ≤ min 63 _; rw [List.length_map]; omega)
  refine ⟨.ref a, rfl, 63, rfl, .inl (.inl ⟨a, _, rfl, hS, fun p hp => ?_⟩)⟩
  rw [hcut]
  refine ⟨p, _, rfl, .inl (SqL.of upd_same), fun c hc => ⟨by show 4 ≤ sizeLine; decide, fun d hd => ?_⟩⟩
  have s1 := Ev.same_new (.lst (ns.map V.int)) hp
  have s2 := Ev.same_new (.lst (ns.map V.int)) hc
  have s3 := Ev.same_new (.lst [.ref c, .int 0, .int 0, .int 0]) hd
  have hcd : c ≠ d := fun e => by
    subst e
    rw [upd_same] at hd
    cases hd
  refine hq _ ⟨d, c, ns, w0 d, w0_dk⟩ (fun b o q => s3 _ _ (s2 _ _ (s1 _ _ q))) ⟨hcd, hl, s3 _ _ upd_same, 0, 0, Int.le_refl _, upd_same⟩ fun b hb => ?_
  have e : b = d := by
    cases z : w0 d b with
    | none =>
      have hb : (w0 d b).isSome = true := hb
      rw [z] at hb; cases hb
    | some j =>
      unfold w0 at z
      split at z
      · assumption
      · cases z
  subst e
  exact ⟨_, upd_same⟩
def spLaw (K : PySem.W.Frag) : Sp := fun vs H Q _ => ∃ (a : Addr) (ns : List Int), vs = [.ref a] ∧ SqL K H a (ns.map V.int) ∧ ns.length ≤ 63 ∧ ∀ H', Q (.bl true) H'
def firstS : List S := .un :: .dk :: List.replicate (N_law.length - 2) .un
theorem ok_first {g : Gd} {H : Hp} {v : V} (d : Deck g 0 H) (hh : Hid g.h H) : Ok g H ((L2.start N_law [v]).set 1 (some (.ref g.dk))) H firstS 0 g.h := by
  refine ⟨rfl, Ed.refl _ _, d, fun _ q => q, hh, fun a ha => .inl ha, fun i s hs => ?_⟩
  match i with
  | 0 => cases hs; trivial
  | 1 => cases hs; rfl
  | k + 2 =>
    have hs : (List.replicate (N_law.length - 2) S.un)[k]? = some s := hs
    rw [List.eq_of_mem_replicate (List.mem_of_getElem? hs)]
    trivial
/-- the law's def, from its body behind the first statement -/
theorem law_frame {k : Nat} {f : Addr} {fd : FuncData} (h1 : 1 ≤ k) (C__law_deck : Cal P w K mg base "_law_deck" P__law_deck 1 (spDeck K)) (U : Fun K "law" "law" s_law f fd)
    (body : ∀ (cdv : Value) (A : Around) (o : List Env) (s : Shared) (H : Hp) (E : XK), Room k (cxB P w K mg base N_law "law" s_law f cdv A o s H E).A → (cxB P w K mg base N_law "law" s_law f cdv A o s H E).A.guards = some [] →
      ∃ t p, PLB (cxB P w K mg base N_law "law" s_law f cdv A o s H E) ((defBody s_law).drop 1) t p ∧ ∀ (g : Gd) (n : Nat), n = 0 → p { nx := fun _ _ => False, rt := fun d _ => d = .bool true } firstS n) :
    FnG P w K mg base CX0 (k + 1) f fd P_law (spLaw K) := by
  refine fnG_nox U sc_law (fun vs H Q E q => by obtain ⟨a, ns, rfl, _⟩ := q; rfl) (fun cdv A o s H vs Q E hr hg q => ?_)
  obtain ⟨fD, fdD, GD, mD, kD, bD⟩ := C__law_deck
  obtain ⟨tB, pB, BB, hB⟩ := body cdv A o s H E hr hg
  refine ⟨_, pss_cons (ps_set (i := 1) sc_law.nd rfl (by first | exact Or.inl rfl | exact Or.inr rfl) (pe_callG GD (hr.mono h1) hg (by rfl) mD kD bD pass0 (pa_cons (pv 0) pa_nil))) BB.ps, ?_⟩
  obtain ⟨a, ns, rfl, hS, hl, hq⟩ := q
  refine ⟨.ref a, rfl, a, ns, rfl, hS, hl, fun H' g e1 d1 hh => ?_⟩
  refine BB.lf g H' _ H' _ 0 g.h _ _ (ok_first d1 hh) (hB g 0 rfl) ⟨fun _ _ _ _ _ _ _ h' => h'.elim, fun _ _ _ _ _ _ _ h' => h'.elim, fun _ _ _ _ _ _ _ h' => h'.elim, fun v H2 dd n' e1 d1 r1 h1 => ?_, fun _ _ _ _ _ _ _ _ _ _ h' => h'.elim, fun _ _ _ _ _ _ _ _ h' => h'.elim⟩
  have h1 : dd = .bool true := h1
  subst h1
  cases r1
  exact hq _
end
end Law

namespace Law
open PySem PySem.Spec PyProof.Rows L2 Ev
/-! ### the law's def -/
def okS (z : Str) : Prop := ∀ c ∈ z.cps.toList, c < 1114112
theorem okS_app {x y : Str} (h1 : okS x) (h2 : okS y) : okS (x ++ y) := fun c hc => by
  rw [app_list] at hc
  exact (List.mem_append.mp hc).elim (h1 c) (h2 c)
theorem okS_join {a : Str} (ha : okS a) : ∀ ys : List Str, (∀ y ∈ ys, okS y) → okS (Str.join a ys)
  | [], _ => fun c hc => by cases hc
  | [x], h => by
    have := h x List.mem_cons_self
    simpa [Str.join] using this
  | x :: y :: r, h => by
    have ih := okS_join ha (y :: r) fun z hz => h z (List.mem_cons_of_mem _ hz)
    unfold Str.join
    exact okS_app (okS_app (h x List.mem_cons_self) ha) ih
theorem okS_iS {x : Nat} (h : x ≤ 99) : okS (iS x) := by
  have : ∀ x : Fin 100, ((iS x.1).cps.toList.all fun c => decide (c < 1114112)) = true := by decide +kernel
  exact fun c hc => of_decide_eq_true (List.all_eq_true.mp (this ⟨x, by omega⟩) c hc)
theorem okS_lit (x : Str) (h : (x.cps.toList.all fun c => decide (c < 1114112)) = true) : okS x := fun c hc => of_decide_eq_true (List.all_eq_true.mp h c hc)
theorem okS_CN : ∀ c ∈ CN, okS c := fun c hc => by
  have : ∀ c ∈ CN, (c.cps.toList.all fun c => decide (c < 1114112)) = true := by decide +kernel
  exact okS_lit c (this c hc)
theorem okS_tm {x : Nat} {c : Str} (h : x ≤ 99) (hc : c ∈ CN) : okS (tmS x c) := by
  unfold tmS
  refine okS_app ?_ (okS_CN c hc)
  split
  · exact okS_iS h
  · exact okS_lit _ (by decide +kernel)
theorem okS_fm {f : List Nat} (h : ∀ x ∈ f, x ≤ 99) : okS (fmS f) := by
  have e : fmS f = Str.join (Str.ofString "+") (allS f) := eq_of_beq (PyProof.Rows.join_plain_closes _ _)
  rw [e]
  have h0 : f.headD 0 ≤ 99 := by
    cases f with
    | nil => exact Nat.zero_le _
    | cons a r => exact h a List.mem_cons_self
  have ht : ∀ y ∈ tmsS f, okS y := fun y hy => by
    obtain ⟨p, hp, rfl⟩ := List.mem_map.mp hy
    have hm := (List.mem_filter.mp hp).1
    exact okS_tm (h _ (List.mem_of_mem_tail (List.of_mem_zip hm).1)) (List.of_mem_zip hm).2
  refine okS_join (okS_lit _ (by decide +kernel)) _ fun y hy => ?_
  unfold allS at hy
  split at hy
  · rcases List.mem_append.mp hy with hy | hy
    · exact ht y hy
    · rw [List.mem_singleton.mp hy]
      exact okS_iS h0
  · exact ht y hy
mutual
theorem okS_wr {k : Nat} : ∀ (p : Part) (free : Bool), Good k free p → okS (wr p)
  | .text z, _, h => fun c hc => by have := h.2 c hc; omega
  | .loop f ps, free, h => okS_app (okS_app (okS_app (okS_app (okS_lit _ (by decide +kernel)) (okS_fm h.2.1)) (okS_lit _ (by decide +kernel))) (okS_wrA ps _ h.2.2.2.2.2)) (okS_lit _ (by decide +kernel))
theorem okS_wrA {k : Nat} : ∀ (ps : List Part) (free : Bool), GoodAll k free ps → okS (wrA ps)
  | [], _, _ => fun c hc => by cases hc
  | p :: r, free, h => okS_app (okS_wr p free h.1) (okS_wrA r free h.2)
end
theorem wr_show {k : Nat} {ps : List Part} (h : GoodAll k true ps) (hd : depAll ps ≤ 3) (hl : ps.length ≤ 5) : shows (.str (wrA ps)) := by
  have h1 := wrA_860 h hd hl
  have hn : nice (.str (wrA ps)) = true := sok_lit _ (List.all_eq_true.mpr fun c hc => decide_eq_true (okS_wrA ps true h c hc))
  refine ⟨(nice_show _ hn).1, (nice_show _ hn).2, by simp [PyData.depth], Nat.le_trans (shown_le _ hn) ?_⟩
  simp only [wt]
  exact Nat.le_trans (by omega : _ ≤ 10000002) (by decide)
theorem no_ite {c : Bool} {p q : Prop} (h : c = false) (hq : q) : if c = true then p else q := by rw [h]; exact hq
section
variable {P : Program} {w : World} {K : PySem.W.Frag} {mg : Str → Option Value} {base : Heap}
theorem fin (T : Tops K mg) (B : Blt mg) (nd : base.NoDigits) {f : Addr} {fd : FuncData} (U : Fun K "law" "law" s_law f fd) : FnG P w K mg base CX0 20 f fd P_law (spLaw K) := by
  have C__law_draw : Cal P w K mg base "_law_draw" P__law_draw 1 (spD F_draw) := T.t_law_draw.cal fun f fd U => ok_draw U B.int B.len B.abs
  have C__law_one := c_one (P := P) (w := w) (base := base) T.t_law_one B C__law_draw
  have C__law_word := c_word T.t_law_word B C__law_draw C__law_one
  have C__law_form := c_form T.t_law_form B C__law_draw C__law_one
  have C__law_part : Cal P w K mg base "_law_part" P__law_part 7 (spD (F_part 4)) := c_part T.t_law_part B C__law_draw C__law_word C__law_form 4
  have C__law_pieces : Cal P w K mg base "_law_pieces" P__law_pieces 5 (spL (F_pieces 4)) := c_pieces T.t_law_pieces B 4
  have C__law_is_small := c_small T.t_law_is_small B C__law_pieces
  have C__law_program := c_program T.t_law_program B C__law_draw C__law_part C__law_is_small
  obtain ⟨cC, V_COUNTS⟩ := T.v_COUNTS
  have C_form_text := c_fm (P := P) (w := w) (base := base) T.t_form_text B V_COUNTS (c_tm T.t_term_text B)
  have C_parts_text : Cal P w K mg base "parts_text" P_parts_text 10 (spD (F_pst 4)) := parts_texts T.t_part_told T.t_parts_text B C_form_text 4
  have C_program_text := c_pgt T.t_program_text B C_parts_text
  have C__law_written : Cal P w K mg base "_law_written" P__law_written 6 (spD (F_pst 4)) := law_written T.t_law_written B (c_lfm T.t_law_form_text B) 4
  refine law_frame (k := 19) (by decide) (c_deck T.t_law_deck B) U fun cdv A o s H E hr hg => ⟨_, _, (b_cons (s_for PassesOwn.never rfl (i_range1 (by rfl) B.range (a_cons (g_ l_int) a_nil)) (g_name (i := 2) sc_law.nd rfl (Or.inl rfl)) (b_cons (s_set (i := 3) sc_law.nd rfl (Or.inl rfl) (l_cal C__law_program (hr.mono (by omega)) hg (by rfl) (a_cons (gv 1) (a_cons (g_ (l_cal C__law_draw (hr.mono (by omega)) hg (by rfl) (a_cons (gv 1) (a_cons (g_ l_int) a_nil)))) a_nil))))
  (b_cons (s_set (i := 4) sc_law.nd rfl (Or.inl rfl) (l_callB (kb_repr (K := K) (by rfl) hg (Room.u200 hr)) (by rfl) B.repr (by decide +kernel) (a_cons (gv 3) a_nil)))
  (b_one (s_if (lw_or (lt_cmp (k_ne (K := K) (by rfl) hr.units) (l_callB (kb_repr (K := K) (by rfl) hg (Room.u200 hr)) (by rfl) B.repr (by decide +kernel) (a_cons (g_ (l_cal C_program_text (hr.mono (by omega)) hg (by rfl) (a_cons (gv 3) a_nil))) a_nil)) (l_callB (kb_repr (K := K) (by rfl) hg (Room.u200 hr)) (by rfl) B.repr (by decide +kernel) (a_cons (g_ (l_cal C__law_written (hr.mono (by omega)) hg (by rfl) (a_cons (g_ (k_ix (K := K) (by rfl) (lv 3) l_int)) a_nil))) a_nil)) (nomark _)) (lw_or1 (lt_cmp (k_ne (K := K) (by rfl) hr.units) (l_callB (kb_repr (K := K) (by rfl) hg (Room.u200 hr)) (by rfl) B.repr (by decide +kernel) (a_cons (gv 3) a_nil)) (lv 4) (nomark _)))).t (b_one (s_ret l_bl)) b_nil)))))
  (b_one (s_ret l_bl))), fun g n hn => ?_⟩
  refine ⟨12, rfl, by decide, by decide, fun i ss n' => ∃ s2 s3 s4, noOwn [s2, s3, s4] = true ∧ ss = [.un, .dk, s2, s3, s4] ∧ n' ≤ 9000 * i,
    ⟨_, _, _, rfl, rfl, by omega⟩, fun i d ss' n' hd ⟨s2, s3, s4, ho, e1, e2⟩ => ?_, fun ss' n' ⟨s2, s3, s4, ho, e1, e2⟩ => ?_⟩
  · subst e1
    have hi : i < 12 := by
      have z := (List.getElem?_eq_some_iff.mp hd).1
      simpa [rangeD] using z
    simp only [dgName, dSeq, dSet, dFn, dCons, dArgV, dArg, dC, dNil, List.set_cons_succ, List.set_cons_zero, List.getElem?_cons_succ, List.getElem?_cons_zero]
    refine use_draw (by decide) (by decide) (by omega) fun k hk => ?_
    refine ⟨k, rfl, by omega, by omega, fun ps n2 hg2 hl hd3 hsm b1 b2 => ?_⟩
    have hk3 : k ≤ 3 := by omega
    have hsp := shows_prog hg2 hk3 hl hd3
    have hs := wr_show hg2 hd3 hl
    have hne : ∀ x : Str, (!PyData.eqv (.str x) (.str x)) = false := fun x => by rw [eqv_refl_s]; rfl
    refine ⟨.inl (NL_prog k ps), ?_⟩
    simp (config := { maxSteps := 1000000 }) only [diZipC, diZipS, qStr_i, dSeq, dSet, dSetL, dRet, dRetO, dRetL, dIfS, dNext, dApp, dSetIx, dVar, dC, dOp, dFn, dFnL, dCons, dNil, dArg, dArgV, onD, datas, dTup, dLst, dLstL, dOfL, dAddL, dMulL, dIf, dTest, dTru, dNot, dAnd, dOr, dNotV, dAndV, dOrV, dSl, dPart, dNoPart, dCall, dMt, qAdd_i, qAdd_s, qAdd_t, qAdd_l, qSub_i, qDiv_i, qMod_i, qPow_i, qMul_i, qMul_s, qMul_t, qMul_l, qLt_i, qLe_i, qGt_i, qGe_i, qIx_l, qIx_t, qIx_s, qSl_l, qSl_t, qSl_s, qLen_l, qLen_t, qLen_s, qInt_i, qInt_b, qMin_i, qMax_i, qTup_l, qTup_t, qLst_l, qLst_t, qTru_n, qTru_b, qTru_i, qTru_s, qTru_l, qTru_t, qSum_l, qAny_l, qAny_t, qJoin_l, qCount_s, qEq_e, qNe_e, qRepr_e, dAsgT, dNeg, qNeg_i, dgTup, dgCons, dgName, dgNil, dPar, diR1, diOwn, diSeq, diL, diZip, diZipM, diVar, dParL, startS, toS, List.map_cons, List.map_nil, List.length_cons, List.length_nil, List.replicate, List.cons_append, List.nil_append, List.append_nil, List.getElem?_cons_zero, List.getElem?_cons_succ, List.set_cons_zero, List.set_cons_succ, Nat.reduceSub, Nat.reduceAdd, wipeS, canD, if_true, if_false, ite_true, ite_false, Bool.false_eq_true, PyData.bool.injEq, exists_eq_left', exists_eq_left, shp_i, shp_s, shp_b, shp_n, shp_e, shp_z, eqv_tt, eqv_lt, eqv_i, true_and, ix0, ix1, ix2, Option.some.injEq, PyData.tuple.injEq, PyData.list.injEq, PyData.int.injEq, PyData.str.injEq, S.own.injEq]
    exact ⟨hsp, .inl rfl, k, ps, rfl, hg2, hk3, hd3, hl, hs, k, true, ps, rfl, hg2, hk3, by omega, hd3, hl, hs, no_ite (hne _) ⟨hsp, no_ite (hne _) ⟨.d d, .d (.tuple [.int k, .tuple (dataAll ps)]), .d (.str (PyData.shown (.tuple [.int k, .tuple (dataAll ps)]))), rfl, rfl, by omega⟩⟩⟩
  · subst e1
    rfl
end
end Law

namespace Ev
open PySem PySem.Spec PyProof.Rows L2
/-! ### the end: the law's def called, nothing being printed around it -/
theorem law_callG {P : Program} {w : World} {K : PySem.W.Frag} {mg mb : Str → Option Value} {k : Nat} {fa a : Addr} {fd : FuncData} {x : Str} {sp : Sp} {t : Shared} {us : List Value} {zs : List Int}
    (kin0 : K.In t.heap) (glob0 : t.heap.Ns mainGlobals mg) (blt0 : t.heap.Ns builtinsNs mb) (boot : ∀ y : Str, y ≠ "__name__" → mb y = bootBuiltins y) (nl0 : t.heap.NoLimit) (nd0 : t.heap.NoDigits) (gens0 : t.gens = #[])
    (at0 : t.heap.get? a = some { cls := .type "list", data := .seq us.toArray }) (hints : IntsAre us zs) (small : zs.length ≤ sizeLine) (room : Room k callerA) (quiet : callerA.guards = some [])
    (F : ∀ b : Heap, K.In b → b.Ns mainGlobals mg → b.NoDigits → FnG P w K mg b CX0 k fa fd [x] sp) (binds : ∀ (s : Shared) (u : Value), BindsTo s fd ⟨[u], []⟩ [(x, u)])
    (hsp : ∀ H : Hp, SqL K H a (zs.map V.int) → sp [.ref a] H (fun v _ => v = .bl true) fun _ _ _ => False) :
    codeAny (model P w) callerA (.call (.ref fa) ⟨[.ref a], []⟩) (fun r s' => r = .ok (.ret (.bool true)) ∧ OldK t.heap s'.heap ∧ s'.os = t.os ∧ AllBare s'.gens) t := by
  have vals := vals_ints hints
  have lens := hints.length
  generalize hob : ({ cls := .type "list", data := .seq us.toArray } : Obj) = ob at at0
  have run : ∀ H : Hp, (∀ b, b ≠ a → H b = none) → (∀ u, H a = some u → u = .frz ob (.lst (zs.map V.int)) ∧ K.lookup a = none) → SqL K H a (zs.map V.int) → HOk P w H t.heap →
      codeAny (model P w) callerA (.call (.ref fa) ⟨[.ref a], []⟩) (fun r s' => r = .ok (.ret (.bool true)) ∧ OldK t.heap s'.heap ∧ s'.os = t.os ∧ AllBare s'.gens) t := by
    intro H far only seq ok
    have dicts : ∀ {b : Addr} {o : Obj} {es : Array DictEntry} {n : Nat}, t.heap.get? b = some o → o.data = .dict es n → H b = none := fun {b o es n} e d => by
      by_cases hb : b = a
      · subst hb
        rw [at0] at e
        cases e
        rw [← hob] at d
        cases d
      · exact far b hb
    have up : ∀ {b : Addr} {m : Str → Option Value}, t.heap.Ns b m → (hidT t.heap H).Ns b m := fun {b m} n => by
      obtain ⟨o, es, ep, e, d, rest⟩ := n
      exact ⟨o, es, ep, hidT_get e (dicts e d), d, rest⟩
    have kin : K.In (hidT t.heap H) := fun b o e => hidT_get (kin0 b o e) (by
      by_cases hb : b = a
      · subst hb
        cases q : H b with
        | none => rfl
        | some u =>
          rw [(only u q).2] at e
          cases e
      · exact far b hb)
    have md : Mod K mg (hidT t.heap H) := by
      obtain ⟨mc, c1, c2⟩ := nl0
      exact ⟨kin, up glob0, ⟨mb, up blt0, boot⟩, mc, up c1, c2⟩
    have nd : (hidT t.heap H).NoDigits := by
      obtain ⟨mc, c1, c2⟩ := nd0
      exact ⟨mc, up c1, c2⟩
    have env : Env0 P w K mg (hidT t.heap H) callerA [] t H := ⟨rfl, md, fun b o e => of_hidT e, Nat.le_of_eq (hidT_size _ _), trivial, fun b hb => (List.not_mem_nil hb).elim, ok, .of_eq gens0⟩
    refine codeAny_mono ((F _ kin (up glob0) nd).run callerA [] t H ⟨[.ref a], []⟩ [.ref a] [.ref a] _ _ room quiet env (binds t (.ref a)) (.cons rfl .nil) (hsp H seq)) fun r s' h => ?_
    match r, h with
    | .error e, h => exact False.elim h
    | .ok .next, h => exact False.elim h
    | .ok .brk, h => exact False.elim h
    | .ok .cont, h => exact False.elim h
    | .ok (.ret u), ⟨v, H', q1, q2, q3, q4, q5, q6⟩ =>
      have q6 : v = .bl true := q6
      subst q6
      obtain rfl : u = Value.bool true := q5
      refine ⟨rfl, OldK.of_keep fun b o e => ?_, q1, q2⟩
      by_cases hb : b = a
      · subst hb
        cases q : H b with
        | none => exact q3.keep b o e q (fun z => (List.not_mem_nil z).elim) List.not_mem_nil
        | some u =>
          obtain ⟨rfl, _⟩ := only u q
          obtain ⟨z, _⟩ := q4 b _ (q3.frzs b ob _ q)
          rw [at0] at e
          cases e
          exact z
      · exact q3.keep b o e (far b hb) (fun z => (List.not_mem_nil z).elim) List.not_mem_nil
  cases hk : K.lookup a with
  | some o =>
    have e := kin0 a o hk
    rw [at0] at e
    cases e
    subst hob
    exact run (fun _ => none) (fun _ _ => rfl) (fun u z => by cases z) (.inr ⟨_, us.toArray, _, hk, rfl, rfl, rfl, by rw [List.size_toArray, lens]; exact small, by simpa using vals⟩) fun b u z => by cases z
  | none =>
    refine run (fun b => if b = a then some (.frz ob (.lst (zs.map V.int))) else none) (fun b hb => if_neg hb) (fun u z => ?_) (.inl (.inr ⟨ob, if_pos rfl⟩)) fun b u z => ?_
    · have z' := (if_pos rfl).symm.trans z
      cases z'
      exact ⟨rfl, hk⟩
    · by_cases hb : b = a
      · have z' := (if_pos hb).symm.trans z
        cases z'
        subst hb
        subst hob
        exact ⟨at0, by rw [List.length_map]; exact small, us, _, vals, at0⟩
      · have z' := (if_neg hb).symm.trans z
        cases z'
/-- a def of the text, found at the top -/
theorem txt_mk {K : PySem.W.Frag} {h : Heap} {mg : Str → Option Value} {x : Str} {st : Stmt} {ps : List Str} (X : K.In h) (G : h.Ns mainGlobals mg) {f : Addr} {oc : Value} {od an : Option Addr} {osl : Array (Option Value)} {kV doc pm cdv ct : Value}
    (a : PySem.W.nsIn K mainGlobals x = some (some (.ref f))) (l : K.lookup f = some ⟨oc, od, .func (PySem.W.fnOf x x (defArgs st) (defBody st) (defScope st) .none kV doc pm an cdv ct), osl⟩) (c : PySem.W.codeIn K cdv x = true) (k : PySem.W.keepIn K (.ref f) = true)
    (b : ∀ (kV doc pm : Value) (an : Option Addr) (cdv ct : Value) (us : List Value), us.length = ps.length → bindArgs (PySem.W.fnOf x x (defArgs st) (defBody st) (defScope st) .none kV doc pm an cdv ct) ⟨us, []⟩ = pure (ps.zip us)) : Txt K mg x st ps :=
  ⟨f, _, fun_mk l c k, PySem.W.mg_of X G a, (fun_mk l c k).binds b⟩
end Ev

namespace Law
open PySem PySem.Spec PyProof.Rows L2 Ev
theorem all_defs {l : PySem.W.OpenLaw} {w : World} {K : PySem.W.Frag} {h : Heap} {mg : Str → Option Value} {fa f1 f2 f3 f4 f5 f6 f7 f8 f9 f10 f11 f12 f13 f14 f15 f16 f17 : Addr} (X : K.In h) (G : h.Ns mainGlobals mg) (hfa : mg "law" = some (.ref fa))
    {od1 an1 od2 an2 od3 an3 od4 an4 od5 an5 od6 an6 od7 an7 od8 an8 od9 an9 od10 an10 od11 an11 od12 an12 od13 an13 od14 an14 od15 an15 od16 an16 od17 an17 : Option Addr} {sl1 sl2 sl3 sl4 sl5 sl6 sl7 sl8 sl9 sl10 sl11 sl12 sl13 sl14 sl15 sl16 sl17 : Array (Option Value)} {oc1 kV1 dc1 pm1 cd1 ct1 oc2 kV2 dc2 pm2 cd2 ct2 oc3 kV3 dc3 pm3 cd3 ct3 oc4 kV4 dc4 pm4 cd4 ct4 oc5 kV5 dc5 pm5 cd5 ct5 oc6 kV6 dc6 pm6 cd6 ct6 oc7 kV7 dc7 pm7 cd7 ct7 oc8 kV8 dc8 pm8 cd8 ct8 oc9 kV9 dc9 pm9 cd9 ct9 oc10 kV10 dc10 pm10 cd10 ct10 oc11 kV11 dc11 pm11 cd11 ct11 oc12 kV12 dc12 pm12 cd12 ct12 oc13 kV13 dc13 pm13 cd13 ct13 oc14 kV14 dc14 pm14 cd14 ct14 oc15 kV15 dc15 pm15 cd15 ct15 oc16 kV16 dc16 pm16 cd16 ct16 oc17 kV17 dc17 pm17 cd17 ct17 : Value}
    (a1 : PySem.W.nsIn K mainGlobals "program_text" = some (some (.ref f1))) (l1 : K.lookup f1 = some ⟨oc1, od1, .func (PySem.W.fnOf "program_text" "program_text" (defArgs s_program_text) (defBody s_program_text) (defScope s_program_text) .none kV1 dc1 pm1 an1 cd1 ct1), sl1⟩) (c1 : PySem.W.codeIn K cd1 "program_text" = true) (k1 : PySem.W.keepIn K (.ref f1) = true)
    (a2 : PySem.W.nsIn K mainGlobals "parts_text" = some (some (.ref f2))) (l2 : K.lookup f2 = some ⟨oc2, od2, .func (PySem.W.fnOf "parts_text" "parts_text" (defArgs s_parts_text) (defBody s_parts_text) (defScope s_parts_text) .none kV2 dc2 pm2 an2 cd2 ct2), sl2⟩) (c2 : PySem.W.codeIn K cd2 "parts_text" = true) (k2 : PySem.W.keepIn K (.ref f2) = true)
    (a3 : PySem.W.nsIn K mainGlobals "part_told" = some (some (.ref f3))) (l3 : K.lookup f3 = some ⟨oc3, od3, .func (PySem.W.fnOf "part_told" "part_told" (defArgs s_part_told) (defBody s_part_told) (defScope s_part_told) .none kV3 dc3 pm3 an3 cd3 ct3), sl3⟩) (c3 : PySem.W.codeIn K cd3 "part_told" = true) (k3 : PySem.W.keepIn K (.ref f3) = true)
    (a4 : PySem.W.nsIn K mainGlobals "form_text" = some (some (.ref f4))) (l4 : K.lookup f4 = some ⟨oc4, od4, .func (PySem.W.fnOf "form_text" "form_text" (defArgs s_form_text) (defBody s_form_text) (defScope s_form_text) .none kV4 dc4 pm4 an4 cd4 ct4), sl4⟩) (c4 : PySem.W.codeIn K cd4 "form_text" = true) (k4 : PySem.W.keepIn K (.ref f4) = true)
    (a5 : PySem.W.nsIn K mainGlobals "term_text" = some (some (.ref f5))) (l5 : K.lookup f5 = some ⟨oc5, od5, .func (PySem.W.fnOf "term_text" "term_text" (defArgs s_term_text) (defBody s_term_text) (defScope s_term_text) .none kV5 dc5 pm5 an5 cd5 ct5), sl5⟩) (c5 : PySem.W.codeIn K cd5 "term_text" = true) (k5 : PySem.W.keepIn K (.ref f5) = true)
    (a6 : PySem.W.nsIn K mainGlobals "_law_deck" = some (some (.ref f6))) (l6 : K.lookup f6 = some ⟨oc6, od6, .func (PySem.W.fnOf "_law_deck" "_law_deck" (defArgs s__law_deck) (defBody s__law_deck) (defScope s__law_deck) .none kV6 dc6 pm6 an6 cd6 ct6), sl6⟩) (c6 : PySem.W.codeIn K cd6 "_law_deck" = true) (k6 : PySem.W.keepIn K (.ref f6) = true)
    (a7 : PySem.W.nsIn K mainGlobals "_law_draw" = some (some (.ref f7))) (l7 : K.lookup f7 = some ⟨oc7, od7, .func (PySem.W.fnOf "_law_draw" "_law_draw" (defArgs s__law_draw) (defBody s__law_draw) (defScope s__law_draw) .none kV7 dc7 pm7 an7 cd7 ct7), sl7⟩) (c7 : PySem.W.codeIn K cd7 "_law_draw" = true) (k7 : PySem.W.keepIn K (.ref f7) = true)
    (a8 : PySem.W.nsIn K mainGlobals "_law_one" = some (some (.ref f8))) (l8 : K.lookup f8 = some ⟨oc8, od8, .func (PySem.W.fnOf "_law_one" "_law_one" (defArgs s__law_one) (defBody s__law_one) (defScope s__law_one) .none kV8 dc8 pm8 an8 cd8 ct8), sl8⟩) (c8 : PySem.W.codeIn K cd8 "_law_one" = true) (k8 : PySem.W.keepIn K (.ref f8) = true)
    (a9 : PySem.W.nsIn K mainGlobals "_law_word" = some (some (.ref f9))) (l9 : K.lookup f9 = some ⟨oc9, od9, .func (PySem.W.fnOf "_law_word" "_law_word" (defArgs s__law_word) (defBody s__law_word) (defScope s__law_word) .none kV9 dc9 pm9 an9 cd9 ct9), sl9⟩) (c9 : PySem.W.codeIn K cd9 "_law_word" = true) (k9 : PySem.W.keepIn K (.ref f9) = true)
    (a10 : PySem.W.nsIn K mainGlobals "_law_form" = some (some (.ref f10))) (l10 : K.lookup f10 = some ⟨oc10, od10, .func (PySem.W.fnOf "_law_form" "_law_form" (defArgs s__law_form) (defBody s__law_form) (defScope s__law_form) .none kV10 dc10 pm10 an10 cd10 ct10), sl10⟩) (c10 : PySem.W.codeIn K cd10 "_law_form" = true) (k10 : PySem.W.keepIn K (.ref f10) = true)
    (a11 : PySem.W.nsIn K mainGlobals "_law_part" = some (some (.ref f11))) (l11 : K.lookup f11 = some ⟨oc11, od11, .func (PySem.W.fnOf "_law_part" "_law_part" (defArgs s__law_part) (defBody s__law_part) (defScope s__law_part) .none kV11 dc11 pm11 an11 cd11 ct11), sl11⟩) (c11 : PySem.W.codeIn K cd11 "_law_part" = true) (k11 : PySem.W.keepIn K (.ref f11) = true)
    (a12 : PySem.W.nsIn K mainGlobals "_law_pieces" = some (some (.ref f12))) (l12 : K.lookup f12 = some ⟨oc12, od12, .func (PySem.W.fnOf "_law_pieces" "_law_pieces" (defArgs s__law_pieces) (defBody s__law_pieces) (defScope s__law_pieces) .none kV12 dc12 pm12 an12 cd12 ct12), sl12⟩) (c12 : PySem.W.codeIn K cd12 "_law_pieces" = true) (k12 : PySem.W.keepIn K (.ref f12) = true)
    (a13 : PySem.W.nsIn K mainGlobals "_law_is_small" = some (some (.ref f13))) (l13 : K.lookup f13 = some ⟨oc13, od13, .func (PySem.W.fnOf "_law_is_small" "_law_is_small" (defArgs s__law_is_small) (defBody s__law_is_small) (defScope s__law_is_small) .none kV13 dc13 pm13 an13 cd13 ct13), sl13⟩) (c13 : PySem.W.codeIn K cd13 "_law_is_small" = true) (k13 : PySem.W.keepIn K (.ref f13) = true)
    (a14 : PySem.W.nsIn K mainGlobals "_law_program" = some (some (.ref f14))) (l14 : K.lookup f14 = some ⟨oc14, od14, .func (PySem.W.fnOf "_law_program" "_law_program" (defArgs s__law_program) (defBody s__law_program) (defScope s__law_program) .none kV14 dc14 pm14 an14 cd14 ct14), sl14⟩) (c14 : PySem.W.codeIn K cd14 "_law_program" = true) (k14 : PySem.W.keepIn K (.ref f14) = true)
    (a15 : PySem.W.nsIn K mainGlobals "_law_form_text" = some (some (.ref f15))) (l15 : K.lookup f15 = some ⟨oc15, od15, .func (PySem.W.fnOf "_law_form_text" "_law_form_text" (defArgs s__law_form_text) (defBody s__law_form_text) (defScope s__law_form_text) .none kV15 dc15 pm15 an15 cd15 ct15), sl15⟩) (c15 : PySem.W.codeIn K cd15 "_law_form_text" = true) (k15 : PySem.W.keepIn K (.ref f15) = true)
    (a16 : PySem.W.nsIn K mainGlobals "_law_written" = some (some (.ref f16))) (l16 : K.lookup f16 = some ⟨oc16, od16, .func (PySem.W.fnOf "_law_written" "_law_written" (defArgs s__law_written) (defBody s__law_written) (defScope s__law_written) .none kV16 dc16 pm16 an16 cd16 ct16), sl16⟩) (c16 : PySem.W.codeIn K cd16 "_law_written" = true) (k16 : PySem.W.keepIn K (.ref f16) = true)
    (a17 : PySem.W.nsIn K mainGlobals "law" = some (some (.ref f17))) (l17 : K.lookup f17 = some ⟨oc17, od17, .func (PySem.W.fnOf "law" "law" (defArgs s_law) (defBody s_law) (defScope s_law) .none kV17 dc17 pm17 an17 cd17 ct17), sl17⟩) (c17 : PySem.W.codeIn K cd17 "law" = true) (k17 : PySem.W.keepIn K (.ref f17) = true)
    {c_COUNTS : Addr} {d_COUNTS : Option Addr} {i_COUNTS : Array Value} {n_COUNTS : Nat} {y_COUNTS : Array (Option Value)} (q_COUNTS : PySem.W.nsIn K mainGlobals "COUNTS" = some (some (.ref c_COUNTS))) (w_COUNTS : K.lookup c_COUNTS = some ⟨.type "tuple", d_COUNTS, .seq i_COUNTS n_COUNTS, y_COUNTS⟩) (b_COUNTS : i_COUNTS.size ≤ sizeLine) (r_COUNTS : Vals ([("n" : Str), ("m" : Str), ("p" : Str)].map V.str) i_COUNTS.toList)
    (z0 : PySem.W.nsIn K mainGlobals "len" = some none) (z1 : PySem.W.nsIn K mainGlobals "int" = some none) (z2 : PySem.W.nsIn K mainGlobals "abs" = some none) (z3 : PySem.W.nsIn K mainGlobals "sum" = some none) (z4 : PySem.W.nsIn K mainGlobals "any" = some none) (z5 : PySem.W.nsIn K mainGlobals "all" = some none) (z6 : PySem.W.nsIn K mainGlobals "min" = some none) (z7 : PySem.W.nsIn K mainGlobals "max" = some none) (z8 : PySem.W.nsIn K mainGlobals "repr" = some none) (z9 : PySem.W.nsIn K mainGlobals "range" = some none) (z10 : PySem.W.nsIn K mainGlobals "zip" = some none) (z11 : PySem.W.nsIn K mainGlobals "tuple" = some none) (z12 : PySem.W.nsIn K mainGlobals "list" = some none) (z13 : PySem.W.nsIn K mainGlobals "isinstance" = some none) (z14 : PySem.W.nsIn K mainGlobals "enumerate" = some none) (z15 : PySem.W.nsIn K mainGlobals "str" = some none) (z16 : PySem.W.nsIn K mainGlobals "bool" = some none) (z17 : PySem.W.nsIn K mainGlobals "ValueError" = some none) :
    ∃ fd : FuncData, (∀ (s : Shared) (v : Value), BindsTo s fd ⟨[v], []⟩ [("_law_script", v)]) ∧ ∀ base : Heap, K.In base → base.Ns mainGlobals mg → base.NoDigits → FnG l.prog w K mg base CX0 20 fa fd ["_law_script"] (spLaw K) := by
  have e := hfa.symm.trans (PySem.W.mg_of X G a17)
  cases e
  have B : Blt mg := ⟨PySem.W.mg_none_of X G z0, PySem.W.mg_none_of X G z1, PySem.W.mg_none_of X G z2, PySem.W.mg_none_of X G z3, PySem.W.mg_none_of X G z4, PySem.W.mg_none_of X G z5, PySem.W.mg_none_of X G z6, PySem.W.mg_none_of X G z7, PySem.W.mg_none_of X G z8, PySem.W.mg_none_of X G z9, PySem.W.mg_none_of X G z10, PySem.W.mg_none_of X G z11, PySem.W.mg_none_of X G z12, PySem.W.mg_none_of X G z13, PySem.W.mg_none_of X G z14, PySem.W.mg_none_of X G z15, PySem.W.mg_none_of X G z16, PySem.W.mg_none_of X G z17⟩
  have T : Tops K mg := ⟨
    txt_mk X G a1 l1 c1 k1 fun _ _ _ _ _ _ us hl => match us, hl with | [_], _ => rfl,
    txt_mk X G a2 l2 c2 k2 fun _ _ _ _ _ _ us hl => match us, hl with | [_], _ => rfl,
    txt_mk X G a3 l3 c3 k3 fun _ _ _ _ _ _ us hl => match us, hl with | [_], _ => rfl,
    txt_mk X G a4 l4 c4 k4 fun _ _ _ _ _ _ us hl => match us, hl with | [_], _ => rfl,
    txt_mk X G a5 l5 c5 k5 fun _ _ _ _ _ _ us hl => match us, hl with | [_, _], _ => rfl,
    txt_mk X G a6 l6 c6 k6 fun _ _ _ _ _ _ us hl => match us, hl with | [_], _ => rfl,
    txt_mk X G a7 l7 c7 k7 fun _ _ _ _ _ _ us hl => match us, hl with | [_, _], _ => rfl,
    txt_mk X G a8 l8 c8 k8 fun _ _ _ _ _ _ us hl => match us, hl with | [_, _], _ => rfl,
    txt_mk X G a9 l9 c9 k9 fun _ _ _ _ _ _ us hl => match us, hl with | [_, _], _ => rfl,
    txt_mk X G a10 l10 c10 k10 fun _ _ _ _ _ _ us hl => match us, hl with | [_, _], _ => rfl,
    txt_mk X G a11 l11 c11 k11 fun _ _ _ _ _ _ us hl => match us, hl with | [_, _, _, _], _ => rfl,
    txt_mk X G a12 l12 c12 k12 fun _ _ _ _ _ _ us hl => match us, hl with | [_], _ => rfl,
    txt_mk X G a13 l13 c13 k13 fun _ _ _ _ _ _ us hl => match us, hl with | [_], _ => rfl,
    txt_mk X G a14 l14 c14 k14 fun _ _ _ _ _ _ us hl => match us, hl with | [_, _], _ => rfl,
    txt_mk X G a15 l15 c15 k15 fun _ _ _ _ _ _ us hl => match us, hl with | [_], _ => rfl,
    txt_mk X G a16 l16 c16 k16 fun _ _ _ _ _ _ us hl => match us, hl with | [_], _ => rfl,
    ⟨_, PySem.W.mg_of X G q_COUNTS, _, _, _, w_COUNTS, rfl, rfl, b_COUNTS, r_COUNTS⟩⟩
  refine ⟨PySem.W.fnOf "law" "law" (defArgs s_law) (defBody s_law) (defScope s_law) .none kV17 dc17 pm17 an17 cd17 ct17, fun s v => .of_eq rfl, fun base _ _ nd => ?_⟩
  exact fin T B nd (fun_mk l17 c17 k17)
theorem walk {l : PySem.W.OpenLaw} {q : Program} {loose : List Str} {XP : (Str → Option Value) → Heap → Prop} {YP : World → Heap → Prop} {d : DefRec} {K : Params → PySem.W.Frag} (hn : l.most = some 63) (hdf : d.params.defaults = [])
    (hY : ∀ (w : World) (h : Heap), YP w h → (K w.params).In h)
    (F : ∀ (w : World) (mg : Str → Option Value) (fa : Addr) (h : Heap), (K w.params).In h → h.Ns mainGlobals mg → mg d.name = some (.ref fa) →
      ∃ fd : FuncData, (∀ (s : Shared) (u : Value), BindsTo s fd ⟨[u], []⟩ [("_law_script", u)]) ∧ ∀ base : Heap, (K w.params).In base → base.Ns mainGlobals mg → base.NoDigits → FnG l.prog w (K w.params) mg base CX0 20 fa fd ["_law_script"] (spLaw (K w.params))) :
    PySem.W.WalkO q loose XP YP l.row.toRowW d [] (fun f vs => PySem.call f vs) := by
  refine Att.attach_call hn hdf fun w s₀ s₁ mg mb fa o pm cd doc a vs ns G Y ho hd hcd hmg hobj hi hlen hg => ?_
  obtain ⟨fd, hb, hF⟩ := F w mg fa _ (hY w _ Y) G.T.g hmg
  exact law_callG (hY w _ Y) G.T.g G.T.b G.T.builtins G.T.nolimit G.T.nodigits hg hobj hi (Nat.le_trans hlen (by decide)) ⟨rfl, by decide, by decide⟩ rfl hF hb fun H hS => ⟨a, ns, rfl, hS, hlen, fun _ => rfl⟩
end Law
open PySem PySem.W PyProof.Rows
set_option maxHeartbeats 0 in
theorem PySem.Challenge.cw_everycount_k63_texts_of_programs_holds : PySem.Challenge.rw_everycount_k63_texts_of_programs.Holds := by
  w_on; o_law; k_head; (case hw => w_witness2)
  k_fill
  refine Law.walk (l := PySem.Challenge.rw_everycount_k63_texts_of_programs) rfl rfl (fun w h Y => PySem.W.kIn_of Y) ?F
  case F =>
    intro w mg fa h KX G hmg
    refine' Law.all_defs KX G hmg ?a1 ?l1 ?c1 ?k1 ?a2 ?l2 ?c2 ?k2 ?a3 ?l3 ?c3 ?k3 ?a4 ?l4 ?c4 ?k4 ?a5 ?l5 ?c5 ?k5 ?a6 ?l6 ?c6 ?k6 ?a7 ?l7 ?c7 ?k7 ?a8 ?l8 ?c8 ?k8 ?a9 ?l9 ?c9 ?k9 ?a10 ?l10 ?c10 ?k10 ?a11 ?l11 ?c11 ?k11 ?a12 ?l12 ?c12 ?k12 ?a13 ?l13 ?c13 ?k13 ?a14 ?l14 ?c14 ?k14 ?a15 ?l15 ?c15 ?k15 ?a16 ?l16 ?c16 ?k16 ?a17 ?l17 ?c17 ?k17  ?q_COUNTS ?w_COUNTS ?b_COUNTS ?r_COUNTS  ?z0 ?z1 ?z2 ?z3 ?z4 ?z5 ?z6 ?z7 ?z8 ?z9 ?z10 ?z11 ?z12 ?z13 ?z14 ?z15 ?z16 ?z17
    (case a1 => k_is); (case l1 => k_is); (case c1 => k_is); (case k1 => k_is)
    (case a2 => k_is); (case l2 => k_is); (case c2 => k_is); (case k2 => k_is)
    (case a3 => k_is); (case l3 => k_is); (case c3 => k_is); (case k3 => k_is)
    (case a4 => k_is); (case l4 => k_is); (case c4 => k_is); (case k4 => k_is)
    (case a5 => k_is); (case l5 => k_is); (case c5 => k_is); (case k5 => k_is)
    (case a6 => k_is); (case l6 => k_is); (case c6 => k_is); (case k6 => k_is)
    (case a7 => k_is); (case l7 => k_is); (case c7 => k_is); (case k7 => k_is)
    (case a8 => k_is); (case l8 => k_is); (case c8 => k_is); (case k8 => k_is)
    (case a9 => k_is); (case l9 => k_is); (case c9 => k_is); (case k9 => k_is)
    (case a10 => k_is); (case l10 => k_is); (case c10 => k_is); (case k10 => k_is)
    (case a11 => k_is); (case l11 => k_is); (case c11 => k_is); (case k11 => k_is)
    (case a12 => k_is); (case l12 => k_is); (case c12 => k_is); (case k12 => k_is)
    (case a13 => k_is); (case l13 => k_is); (case c13 => k_is); (case k13 => k_is)
    (case a14 => k_is); (case l14 => k_is); (case c14 => k_is); (case k14 => k_is)
    (case a15 => k_is); (case l15 => k_is); (case c15 => k_is); (case k15 => k_is)
    (case a16 => k_is); (case l16 => k_is); (case c16 => k_is); (case k16 => k_is)
    (case a17 => k_is); (case l17 => k_is); (case c17 => k_is); (case k17 => k_is)
    (case q_COUNTS => k_is); (case w_COUNTS => k_is); (case b_COUNTS => decide); (case r_COUNTS => exact .cons ⟨_, rfl⟩ (.cons ⟨_, rfl⟩ (.cons ⟨_, rfl⟩ (.nil))))
    (case z0 => k_is)
    (case z1 => k_is)
    (case z2 => k_is)
    (case z3 => k_is)
    (case z4 => k_is)
    (case z5 => k_is)
    (case z6 => k_is)
    (case z7 => k_is)
    (case z8 => k_is)
    (case z9 => k_is)
    (case z10 => k_is)
    (case z11 => k_is)
    (case z12 => k_is)
    (case z13 => k_is)
    (case z14 => k_is)
    (case z15 => k_is)
    (case z16 => k_is)
    (case z17 => k_is)

