import PyProof.Rows.All
import HandS.ForMost
import HandS.Zip
import HandS.IsInst
import HandS.Wide
import HandS.TupAny
import HandS.TupMul
import HandS.Flow
import HandS.StrMore
import HandS.RaiseMore
import HandS.Conv
import HandS.EndBits
import PyProof.ReprRoads
import HandS.Style
import KE.DataEq
import PyProof.Rows.StrFin3
import KE.GoesZip
import KE.GoesMore
import KE.GoesEnum
import PyProof.Rows.Digits
import PyProof.StrReplace2
import PyProof.StrLawsRepr
import HandS.TryOnly
import KE.KTupSum
import PyProof.AutoSeq1
import PySem.Challenge.RW_everycount_k24_what_is_plain
import HandS.Evl
import HandS.Ends
import Wide.All
import OpenK.AllK
import Wide.FinOn
set_option Elab.async false
set_option linter.all false
set_option maxRecDepth 100000
set_option maxHeartbeats 4000000
namespace Ev
open PySem PySem.Spec PyProof.Rows L2

/-! ### data at an abstract heap -/
mutual
inductive Dq (H : Hp) : V → PyData → Prop
  | non : Dq H .non .none
  | bl (b : Bool) : Dq H (.bl b) (.bool b)
  | int (i : Int) : Dq H (.int i) (.int i)
  | str (x : Str) : Dq H (.str x) (.str x)
  | lst {a : Addr} {vs : List V} {ds : List PyData} : H a = some (.lst vs) → DqA H vs ds → Dq H (.ref a) (.list ds)
  | tup {a : Addr} {vs : List V} {ds : List PyData} : H a = some (.tup vs) → DqA H vs ds → Dq H (.ref a) (.tuple ds)
inductive DqA (H : Hp) : List V → List PyData → Prop
  | nil : DqA H [] []
  | cons {v : V} {vs : List V} {d : PyData} {ds : List PyData} : Dq H v d → DqA H vs ds → DqA H (v :: vs) (d :: ds)
end
mutual
theorem Dq.same {H H' : Hp} (e : Same H H') : ∀ {v : V} {d : PyData}, Dq H v d → Dq H' v d
  | _, _, .non => .non
  | _, _, .bl b => .bl b
  | _, _, .int i => .int i
  | _, _, .str x => .str x
  | _, _, .lst h q => .lst (e _ _ h) (DqA.same e q)
  | _, _, .tup h q => .tup (e _ _ h) (DqA.same e q)
theorem DqA.same {H H' : Hp} (e : Same H H') : ∀ {v : List V} {d : List PyData}, DqA H v d → DqA H' v d
  | _, _, .nil => .nil
  | _, _, .cons h q => .cons (Dq.same e h) (DqA.same e q)
end
mutual
theorem Dq.dp {K : PySem.W.Frag} {H : Hp} : ∀ {v : V} {d : PyData}, Dq H v d → Dp K H v d
  | _, _, .non => .non
  | _, _, .bl b => .bl b
  | _, _, .int i => .int i
  | _, _, .str x => .str x
  | _, _, .lst h q => .lst (SqL.of h) (DqA.dp q)
  | _, _, .tup h q => .tup (SqT.of h) (DqA.dp q)
theorem DqA.dp {K : PySem.W.Frag} {H : Hp} : ∀ {v : List V} {d : List PyData}, DqA H v d → DpAll K H v d
  | _, _, .nil => .nil
  | _, _, .cons h q => .cons (Dq.dp h) (DqA.dp q)
end
theorem DqA.len {H : Hp} : ∀ {v : List V} {d : List PyData}, DqA H v d → v.length = d.length
  | _, _, .nil => rfl
  | _, _, .cons _ q => congrArg (· + 1) (DqA.len q)
theorem DqA.get {H : Hp} : ∀ {vs : List V} {ds : List PyData} {i : Nat} {d : PyData}, DqA H vs ds → ds[i]? = some d → ∃ v, vs[i]? = some v ∧ Dq H v d
  | _, _, _, _, .nil, e => by simp at e
  | _, _, 0, _, .cons h _, e => by simp at e; subst e; exact ⟨_, rfl, h⟩
  | _, _, i + 1, _, .cons _ q, e => by
    obtain ⟨v, h1, h2⟩ := DqA.get (i := i) q (by simpa using e)
    exact ⟨v, by simpa using h1, h2⟩
theorem DqA.getV {H : Hp} : ∀ {vs : List V} {ds : List PyData} {i : Nat} {v : V}, DqA H vs ds → vs[i]? = some v → ∃ d, ds[i]? = some d ∧ Dq H v d
  | _, _, _, _, .nil, e => by simp at e
  | _, _, 0, _, .cons h _, e => by simp at e; subst e; exact ⟨_, rfl, h⟩
  | _, _, i + 1, _, .cons _ q, e => by
    obtain ⟨v, h1, h2⟩ := DqA.getV (i := i) q (by simpa using e)
    exact ⟨v, by simpa using h1, h2⟩
theorem DqA.app {H : Hp} : ∀ {vs us : List V} {ds es : List PyData}, DqA H vs ds → DqA H us es → DqA H (vs ++ us) (ds ++ es)
  | _, _, _, _, .nil, q => q
  | _, _, _, _, .cons h r, q => .cons h (DqA.app r q)
theorem DqA.drop {H : Hp} : ∀ {vs : List V} {ds : List PyData} (n : Nat), DqA H vs ds → DqA H (vs.drop n) (ds.drop n)
  | _, _, 0, h => h
  | _, _, _ + 1, .nil => .nil
  | _, _, n + 1, .cons _ q => DqA.drop n q
theorem DqA.take {H : Hp} : ∀ {vs : List V} {ds : List PyData} (n : Nat), DqA H vs ds → DqA H (vs.take n) (ds.take n)
  | _, _, 0, h => .nil
  | _, _, _ + 1, .nil => .nil
  | _, _, n + 1, .cons h q => .cons h (DqA.take n q)
theorem DqA.set {H : Hp} {v : V} {d : PyData} (r : Dq H v d) : ∀ {vs : List V} {ds : List PyData} (i : Nat), DqA H vs ds → DqA H (vs.set i v) (ds.set i d)
  | _, _, _, .nil => .nil
  | _, _, 0, .cons _ t => .cons r t
  | _, _, i + 1, .cons q t => .cons q (DqA.set r i t)
theorem DqA.rep {H : Hp} {vs : List V} {ds : List PyData} (h : DqA H vs ds) : ∀ n : Nat, DqA H (List.replicate n vs).flatten (List.replicate n ds).flatten
  | 0 => .nil
  | n + 1 => by
    rw [List.replicate_succ, List.replicate_succ, List.flatten_cons, List.flatten_cons]
    exact h.app (DqA.rep h n)

/-! ### the deck, hidden addresses, the state -/
structure Gd where
  dk : Addr
  c : Addr
  cells : List Int
  /-- hidden from the def: the deck, lists of those that called it -/
  h : Addr → Option Nat
  hdk : (h dk).isSome
theorem Gd.ne {g : Gd} {a : Addr} (q : g.h a = none) : a ≠ g.dk := fun z => by
  have := g.hdk
  rw [← z, q] at this
  cases this
/-- all but the deck stands -/
def Ed (dk : Addr) (H H' : Hp) : Prop := ∀ a o, a ≠ dk → H a = some o → H' a = some o
theorem Ed.refl (dk : Addr) (H : Hp) : Ed dk H H := fun _ _ _ h => h
theorem Ed.trans {dk : Addr} {H H1 H2 : Hp} (a : Ed dk H H1) (b : Ed dk H1 H2) : Ed dk H H2 := fun x o n h => b x o n (a x o n h)
theorem Ed.of {dk : Addr} {H H' : Hp} (a : Same H H') : Ed dk H H' := fun x o _ h => a x o h
theorem same_new {H : Hp} {p : Addr} (o : HO) (h : H p = none) : Same H (upd H p o) := fun b u q => by
  rw [upd_ne (ne_of_none q h)]
  exact q
def hw (w : Addr → Option Nat) (H : Hp) : Hp := fun a => if (w a).isSome then none else H a
def w0 (dk : Addr) : Addr → Option Nat := fun a => if a = dk then some 0 else none
theorem hw_some {w : Addr → Option Nat} {H : Hp} {a : Addr} {o : HO} : hw w H a = some o ↔ w a = none ∧ H a = some o := by
  unfold hw
  cases w a <;> simp
theorem hw_ed {w : Addr → Option Nat} {dk : Addr} {H H' : Hp} (h : (w dk).isSome) (e : Ed dk H H') : Same (hw w H) (hw w H') := fun a o q => by
  obtain ⟨q1, q2⟩ := hw_some.mp q
  refine hw_some.mpr ⟨q1, e a o (fun z => ?_) q2⟩
  subst z
  rw [q1] at h
  cases h
theorem w0_none {dk a : Addr} : w0 dk a = none ↔ a ≠ dk := by
  unfold w0
  by_cases h : a = dk <;> simp [h]
theorem w0_dk {dk : Addr} : (w0 dk dk).isSome := by simp [w0]
theorem h0_ed {g : Gd} {H H' : Hp} (e : Ed g.dk H H') : Same (hw g.h H) (hw g.h H') := hw_ed g.hdk e
theorem hw_same {w : Addr → Option Nat} {H H' : Hp} (e : Same H H') : Same (hw w H) (hw w H') := fun a o q => by
  obtain ⟨q1, q2⟩ := hw_some.mp q
  exact hw_some.mpr ⟨q1, e _ _ q2⟩
theorem hw_h0 {w h : Addr → Option Nat} {H : Hp} (e : ∀ a, (h a).isSome → (w a).isSome) : Same (hw w H) (hw h H) := fun a o q => by
  obtain ⟨q1, q2⟩ := hw_some.mp q
  refine hw_some.mpr ⟨?_, q2⟩
  cases z : h a with
  | none => rfl
  | some i =>
    have := e a (by rw [z]; rfl)
    rw [q1] at this
    cases this
/-- what is hidden is lists -/
def Hid (h : Addr → Option Nat) (H : Hp) : Prop := ∀ a, (h a).isSome → ∃ vs, H a = some (.lst vs)
theorem Hid.none {h : Addr → Option Nat} {H : Hp} (k : Hid h H) {a : Addr} (q : H a = none) : h a = none := by
  cases z : h a with
  | none => rfl
  | some i =>
    obtain ⟨vs, e⟩ := k a (by rw [z]; rfl)
    rw [q] at e
    cases e
theorem Hid.same {h : Addr → Option Nat} {H H' : Hp} (k : Hid h H) (e : Same H H') : Hid h H' := fun a q => let ⟨vs, z⟩ := k a q; ⟨vs, e _ _ z⟩
theorem hw_sub {w : Addr → Option Nat} {H : Hp} : Same (hw w H) H := fun a o q => (hw_some.mp q).2

def Deck (g : Gd) (n : Nat) (H : Hp) : Prop := g.c ≠ g.dk ∧ g.cells.length ≤ 63 ∧ H g.c = some (.lst (g.cells.map V.int)) ∧
  ∃ p q : Int, 0 ≤ q ∧ H g.dk = some (.lst [.ref g.c, .int p, .int q, .int n])
theorem Deck.same {g : Gd} {n : Nat} {H H' : Hp} (h : Deck g n H) (e : Same H H') : Deck g n H' := by
  obtain ⟨h1, h2, h3, p, q, h4, h5⟩ := h
  exact ⟨h1, h2, e _ _ h3, p, q, h4, e _ _ h5⟩

/-- what a slot holds: data, a list of the def's own, the deck, anything -/
inductive S where
  | d (x : PyData)
  | own (xs : List PyData)
  | dk
  | un

def SlotOk (g : Gd) (H : Hp) (w : Addr → Option Nat) (i : Nat) (σi : Option (Option V)) : S → Prop
  | .d x => ∃ v, σi = some (some v) ∧ Dq (hw w H) v x
  | .own xs => ∃ a vs, σi = some (some (.ref a)) ∧ w a = some i ∧ g.h a = none ∧ H a = some (.lst vs) ∧ DqA (hw w H) vs xs
  | .dk => σi = some (some (.ref g.dk))
  | .un => True

structure Ok (g : Gd) (H0 : Hp) (σ : L2.St) (H : Hp) (ss : List S) (n : Nat) (w : Addr → Option Nat) : Prop where
  len : ss.length = σ.length
  ed : Ed g.dk H0 H
  deck : Deck g n H
  ext : ∀ a, (g.h a).isSome → (w a).isSome
  hx : Hid g.h H0
  hid : ∀ a, (w a).isSome → (g.h a).isSome ∨ (H0 a = none ∧ a ≠ g.c ∧ ∃ i xs, w a = some i ∧ ss[i]? = some (.own xs) ∧ σ[i]? = some (some (.ref a)))
  sl : ∀ i s, ss[i]? = some s → SlotOk g H w i σ[i]? s

section
variable {g : Gd} {H0 H H' : Hp} {σ : L2.St} {ss : List S} {n n' : Nat} {w : Addr → Option Nat}
theorem Ok.wdk (k : Ok g H0 σ H ss n w) : (w g.dk).isSome := k.ext _ g.hdk
theorem Deck.hid {g : Gd} {n : Nat} {H0 H : Hp} (d : Deck g n H) (k : Hid g.h H0) (e : Ed g.dk H0 H) : Hid g.h H := fun a q => by
  by_cases z : a = g.dk
  · subst z
    obtain ⟨_, _, _, _, _, _, r⟩ := d
    exact ⟨_, r⟩
  · obtain ⟨vs, r⟩ := k a q
    exact ⟨vs, e _ _ z r⟩
theorem Ok.hd (k : Ok g H0 σ H ss n w) : Hid g.h H := k.deck.hid k.hx k.ed
theorem Ok.step (k : Ok g H0 σ H ss n w) (e : Ed g.dk H H') (d : Deck g n' H') : Ok g H0 σ H' ss n' w := by
  refine ⟨k.len, k.ed.trans e, d, k.ext, k.hx, k.hid, fun i s hs => ?_⟩
  have q := k.sl i s hs
  cases s with
  | d x => obtain ⟨v, h1, h2⟩ := q; exact ⟨v, h1, h2.same (hw_ed k.wdk e)⟩
  | own xs => obtain ⟨a, vs, h1, h2, h3, h4, h5⟩ := q; exact ⟨a, vs, h1, h2, h3, e _ _ (Gd.ne h3) h4, h5.same (hw_ed k.wdk e)⟩
  | dk => exact q
  | un => trivial
theorem Ok.same (k : Ok g H0 σ H ss n w) (e : Same H H') : Ok g H0 σ H' ss n w := k.step (Ed.of e) (k.deck.same e)
/-- a free place is not hidden -/
theorem Ok.free (k : Ok g H0 σ H ss n w) {p : Addr} (h : H p = none) : w p = none := by
  cases q : w p with
  | none => rfl
  | some i =>
    rcases k.hid p (by rw [q]; rfl) with z | ⟨_, _, j, xs, h1, h2, h3⟩
    · obtain ⟨vs, z⟩ := k.hd p z
      rw [h] at z
      cases z
    · obtain ⟨a, vs, e1, _, _, e2, _⟩ := k.sl j _ h2
      rw [h3] at e1
      cases e1
      rw [h] at e2
      cases e2
/-- a slot's value, as data -/
theorem Ok.var (k : Ok g H0 σ H ss n w) {i : Nat} {x : PyData} (h : ss[i]? = some (.d x)) : ∃ v, σ[i]? = some (some v) ∧ Dq (hw w H) v x := k.sl i _ h
theorem Ok.varL (k : Ok g H0 σ H ss n w) {i : Nat} {xs : List PyData} (h : ss[i]? = some (.own xs)) : ∃ v, σ[i]? = some (some v) ∧ Dq (hw g.h H) v (.list xs) := by
  obtain ⟨a, vs, h1, h2, h3, h4, h5⟩ := k.sl i _ h
  exact ⟨_, h1, .lst (hw_some.mpr ⟨h3, h4⟩) (h5.same (hw_h0 k.ext))⟩
end

/-! ### what is behind an expression, told of data -/
abbrev DQ := PyData → Nat → Prop
abbrev DE := List S → Nat → DQ → Prop
abbrev DT := List S → Nat → (Bool → Nat → Prop) → Prop
/-- an argument: data or the deck -/
inductive W where
  | d (x : PyData)
  | dk
abbrev DA := List S → Nat → (List W → Nat → Prop) → Prop
def WOk (g : Gd) (H : Hp) (v : V) : W → Prop
  | .d x => Dq (hw g.h H) v x
  | .dk => v = .ref g.dk
theorem WOk.ed {g : Gd} {H H' : Hp} {v : V} {a : W} (h : WOk g H v a) (e : Ed g.dk H H') : WOk g H' v a := by
  cases a with
  | d x => exact Dq.same (h0_ed e) h
  | dk => exact h
inductive WsOk (g : Gd) (H : Hp) : List V → List W → Prop
  | nil : WsOk g H [] []
  | cons {v : V} {vs : List V} {a : W} {as : List W} : WOk g H v a → WsOk g H vs as → WsOk g H (v :: vs) (a :: as)
theorem WsOk.len {g : Gd} {H : Hp} : ∀ {vs : List V} {as : List W}, WsOk g H vs as → vs.length = as.length
  | _, _, .nil => rfl
  | _, _, .cons _ q => congrArg (· + 1) (WsOk.len q)
theorem WsOk.ed {g : Gd} {H H' : Hp} (e : Ed g.dk H H') : ∀ {vs : List V} {as : List W}, WsOk g H vs as → WsOk g H' vs as
  | _, _, .nil => .nil
  | _, _, .cons h q => .cons (h.ed e) (WsOk.ed e q)

def Lf (t : TE) (p : DE) : Prop := ∀ (g : Gd) (H0 : Hp) (σ : L2.St) (H : Hp) (ss : List S) (n : Nat) (w : Addr → Option Nat) (Q : VK) (Q1 : DQ), Ok g H0 σ H ss n w → p ss n Q1 →
  (∀ d n' v H', Q1 d n' → Ed g.dk H H' → Ok g H0 σ H' ss n' w → Dq (hw g.h H') v d → Q v H') → t σ H Q
def LfT (t : TT) (p : DT) : Prop := ∀ (g : Gd) (H0 : Hp) (σ : L2.St) (H : Hp) (ss : List S) (n : Nat) (w : Addr → Option Nat) (Q : Bool → Hp → Prop) (Q1 : Bool → Nat → Prop), Ok g H0 σ H ss n w → p ss n Q1 →
  (∀ b n' H', Q1 b n' → Ed g.dk H H' → Ok g H0 σ H' ss n' w → Q b H') → t σ H Q
def LfA (t : TA) (p : DA) : Prop := ∀ (g : Gd) (H0 : Hp) (σ : L2.St) (H : Hp) (ss : List S) (n : Nat) (w : Addr → Option Nat) (Q : List V → Hp → Prop) (Q1 : List W → Nat → Prop), Ok g H0 σ H ss n w → p ss n Q1 →
  (∀ as n' vs H', Q1 as n' → Ed g.dk H H' → Ok g H0 σ H' ss n' w → WsOk g H' vs as → Q vs H') → t σ H Q

structure PL (X : Cx) (e : Expr) (t : TE) (p : DE) : Prop where
  pe : PE X e t
  lf : Lf t p
structure PLT (X : Cx) (e : Expr) (t : TT) (p : DT) : Prop where
  pt : PT X e t
  lf : LfT t p
structure PLW (X : Cx) (e : Expr) (t : TT) (p : DT) : Prop where
  pw : PW X e t
  lf : LfT t p
structure PLA (X : Cx) (es : List Expr) (t : TA) (p : DA) : Prop where
  pa : PA X es t
  lf : LfA t p
theorem PLW.t {X : Cx} {e : Expr} {t : TT} {p : DT} (h : PLW X e t p) : PLT X e t p := ⟨h.pw.pt, h.lf⟩

section
variable {X : Cx} {e a b c : Expr} {es : List Expr} {t ta tb tc : TE} {tt tu : TT} {tA : TA} {p pa pb pc : DE} {pt pu : DT} {pA : DA} {pos : Pos}

def dVar (i : Nat) : DE := fun ss n Q => match ss[i]? with | some (.d x) => Q x n | some (.own xs) => Q (.list xs) n | _ => False
theorem lf_var (i : Nat) : Lf (tVar i) (dVar i) := fun g H0 σ H ss n w Q Q1 k h q => by
  unfold dVar at h
  split at h
  · rename_i x e
    obtain ⟨v, h1, h2⟩ := k.var e
    exact ⟨v, h1, q _ _ _ _ h (Ed.refl _ _) k (h2.same (hw_h0 k.ext))⟩
  · rename_i xs e
    obtain ⟨v, h1, h2⟩ := k.varL e
    exact ⟨v, h1, q _ _ _ _ h (Ed.refl _ _) k h2⟩
  · exact h.elim
theorem lv (i : Nat) {x : Str} (hN : X.N[i]? = some x := by rfl) (hv : Vis X.env.scope x := by first | exact Or.inl rfl | exact Or.inr (Or.inl rfl) | exact Or.inr (Or.inr rfl)) (hd : (x == ("__debug__" : Str)) = false := by decide)
    (hcd : (x == ("__classdict__" : Str)) = false := by decide) : PL X (.Name x pos) (tVar i) (dVar i) := ⟨pe_var hN hv hd hcd, lf_var i⟩

def dC (d : PyData) : DE := fun _ n Q => Q d n
theorem lf_c {v : V} {d : PyData} (h : ∀ H, Dq H v d) : Lf (tC v) (dC d) := fun g H0 σ H ss n w Q Q1 k hp q => q _ _ _ _ hp (Ed.refl _ _) k (h _)
theorem l_int {i : Int} {k : Nat} : PL X (.Constant (.int i) k pos) (tC (.int i)) (dC (.int i)) := ⟨pe_int, lf_c fun _ => .int i⟩
end
end Ev

namespace Ev
open PySem PySem.Spec PyProof.Rows L2

abbrev DP := (PyData → Prop) → Prop
/-- an operation of two values, told of data -/
def LR (r : R2) (q : PyData → PyData → DP) : Prop := ∀ (hh : Addr → Option Nat) (H : Hp) (x y : V) (d e : PyData) (Q : VK) (Q1 : PyData → Prop), Hid hh H → Dq (hw hh H) x d → Dq (hw hh H) y e → q d e Q1 →
  (∀ z H' f, Q1 f → Same H H' → Dq (hw hh H') z f → Q z H') → r x y H Q
/-- a call of a built-in with data -/
def LC (r : List V → Hp → VK → Prop) (q : List PyData → DP) : Prop := ∀ (hh : Addr → Option Nat) (H : Hp) (xs : List V) (ds : List PyData) (Q : VK) (Q1 : PyData → Prop), Hid hh H → DqA (hw hh H) xs ds → q ds Q1 →
  (∀ z H' f, Q1 f → Same H H' → Dq (hw hh H') z f → Q z H') → r xs H Q
theorem ne_dk {g : Gd} {n : Nat} {H : Hp} (h : Deck g n H) : H g.dk ≠ none := fun z => by
  obtain ⟨_, _, _, _, _, _, q⟩ := h
  rw [z] at q
  cases q
theorem hw_new {hh : Addr → Option Nat} {p : Addr} {H : Hp} {o : HO} (h : Hid hh H) (hp : H p = none) : hw hh (upd H p o) p = some o := hw_some.mpr ⟨h.none hp, upd_same⟩
theorem new_tup {hh : Addr → Option Nat} {H : Hp} (h : Hid hh H) {vs : List V} {ds : List PyData} (q : DqA (hw hh H) vs ds) {p : Addr} (hp : H p = none) : Same H (upd H p (.tup vs)) ∧ Dq (hw hh (upd H p (.tup vs))) (.ref p) (.tuple ds) :=
  ⟨same_new _ hp, .tup (hw_new h hp) (q.same (hw_same (same_new _ hp)))⟩
theorem new_lst {hh : Addr → Option Nat} {H : Hp} (h : Hid hh H) {vs : List V} {ds : List PyData} (q : DqA (hw hh H) vs ds) {p : Addr} (hp : H p = none) : Same H (upd H p (.lst vs)) ∧ Dq (hw hh (upd H p (.lst vs))) (.ref p) (.list ds) :=
  ⟨same_new _ hp, .lst (hw_new h hp) (q.same (hw_same (same_new _ hp)))⟩
theorem hsub {w : Addr → Option Nat} {H : Hp} {a : Addr} {o : HO} (h : hw w H a = some o) : H a = some o := (hw_some.mp h).2

section
variable {X : Cx} {e a b c : Expr} {es : List Expr} {t ta tb tc : TE} {tt tu : TT} {tA : TA} {p pa pb pc : DE} {pt pu : DT} {pA : DA} {pos : Pos}
theorem l_str {i : Str} {k : Nat} : PL X (.Constant (.str i) k pos) (tC (.str i)) (dC (.str i)) := ⟨pe_str, lf_c fun _ => .str i⟩
theorem l_bl {i : Bool} {k : Nat} : PL X (.Constant (.bool i) k pos) (tC (.bl i)) (dC (.bool i)) := ⟨pe_bl, lf_c fun _ => .bl i⟩
theorem l_non {k : Nat} : PL X (.Constant .none k pos) (tC .non) (dC .none) := ⟨pe_non, lf_c fun _ => .non⟩

/-! two-place operations -/
def dOp (q : PyData → PyData → DP) (pa pb : DE) : DE := fun ss n Q => pa ss n fun d n1 => pb ss n1 fun e n2 => q d e fun f => Q f n2
theorem lf_op {r : R2} {q : PyData → PyData → DP} (hr : LR r q) (ha : Lf ta pa) (hb : Lf tb pb) : Lf (tOp r ta tb) (dOp q pa pb) := fun g H0 σ H ss n w Q Q1 k h hq =>
  ha g H0 σ H ss n w _ _ k h fun d n1 v H1 h1 e1 k1 r1 => hb g H0 σ H1 ss n1 w _ _ k1 h1 fun e n2 u H2 h2 e2 k2 r2 =>
    hr g.h H2 v u d e Q _ k2.hd (r1.same (h0_ed e2)) r2 h2 fun z H3 f h3 e3 r3 => hq f n2 z H3 h3 ((e1.trans e2).trans (Ed.of e3)) (k2.same e3) r3
theorem OpR.or {f : Value → Value → Sem Value} {r r' : R2} (h : OpR X f r) (h' : OpR X f r') : OpR X f (fun x y H Q => r x y H Q ∨ r' x y H Q) := fun pins s σ H x y v u Q I rx ry q =>
  q.elim (h pins s σ H x y v u Q I rx ry) (h' pins s σ H x y v u Q I rx ry)

def qAdd : PyData → PyData → DP := fun d e Q => match d, e with
  | .int i, .int j => Q (.int (i + j))
  | .str x, .str y => x.length + y.length ≤ sizeLine ∧ Q (.str (x ++ y))
  | .tuple xs, .tuple ys => xs.length + ys.length ≤ sizeLine ∧ Q (.tuple (xs ++ ys))
  | .list xs, .list ys => xs.length + ys.length ≤ sizeLine ∧ Q (.list (xs ++ ys))
  | _, _ => False
def rAdd' (K : PySem.W.Frag) : R2 := fun x y H Q => (((rI0 fun i j => V.int (i + j)) x y H Q ∨ (∃ i j, x = V.str i ∧ y = V.str j ∧ i.length + j.length ≤ sizeLine ∧ Q (V.str (i ++ j)) H)) ∨ rCatA K x y H Q) ∨ rCat x y H Q
theorem op_add' : OpR X (binaryOp .Add) (rAdd' X.K) := OpR.or (OpR.or (OpR.or op_add op_add_str) op_catA) op_cat
theorem lr_add {K : PySem.W.Frag} : LR (rAdd' K) qAdd := fun hh H x y d e Q Q1 hd hx hy h q => by
  cases hx with
  | int i =>
    cases hy with
    | int j => exact .inl (.inl (.inl ⟨i, j, rfl, rfl, q _ _ _ h (Same.refl H) (.int _)⟩))
    | _ => exact h.elim
  | str i =>
    cases hy with
    | str j => exact .inl (.inl (.inr ⟨i, j, rfl, rfl, h.1, q _ _ _ h.2 (Same.refl H) (.str _)⟩))
    | _ => exact h.elim
  | @tup a vs ds ha hA =>
    cases hy with
    | @tup b us es hb hB =>
      have l1 := hA.len
      have l2 := hB.len
      obtain ⟨h1, h2⟩ := h
      refine .inl (.inr ⟨a, b, vs, us, rfl, rfl, SqT.of (hsub ha), SqT.of (hsub hb), by omega, fun z => ?_, fun _ z => ?_, fun _ _ p hp => ?_⟩)
      · subst z
        cases hA
        exact q _ _ _ h2 (Same.refl H) (.tup hb hB)
      · subst z
        cases hB
        rw [List.append_nil] at h2
        exact q _ _ _ h2 (Same.refl H) (.tup ha hA)
      · obtain ⟨g1, g2⟩ := new_tup hd (hA.app hB) hp
        exact q _ _ _ h2 g1 g2
    | _ => exact h.elim
  | @lst a vs ds ha hA =>
    cases hy with
    | @lst b us es hb hB =>
      have l1 := hA.len
      have l2 := hB.len
      obtain ⟨h1, h2⟩ := h
      refine .inr ⟨a, b, vs, us, rfl, rfl, hsub ha, hsub hb, by omega, fun p hp => ?_⟩
      obtain ⟨g1, g2⟩ := new_lst hd (hA.app hB) hp
      exact q _ _ _ h2 g1 g2
    | _ => exact h.elim
  | _ => cases hy <;> exact h.elim
theorem l_add (ha : PL X a ta pa) (hb : PL X b tb pb) : PL X (.BinOp a .Add b pos) (tOp (rAdd' X.K) ta tb) (dOp qAdd pa pb) := ⟨pe_op op_add' ha.pe hb.pe, lf_op lr_add ha.lf hb.lf⟩

/-- ints alone -/
def qI (C : Int → Int → Prop) (g : Int → Int → PyData) : PyData → PyData → DP := fun d e Q => match d, e with
  | .int i, .int j => C i j ∧ Q (g i j)
  | _, _ => False
theorem lr_I {C : Int → Int → Prop} {f : Int → Int → V} {g : Int → Int → PyData} (hg : ∀ i j H, Dq H (f i j) (g i j)) : LR (rI C f) (qI C g) := fun hh H x y d e Q Q1 hd hx hy h q => by
  cases hx with
  | int i =>
    cases hy with
    | int j => exact ⟨i, j, rfl, rfl, h.1, q _ _ _ h.2 (Same.refl H) (hg _ _ _)⟩
    | _ => exact h.elim
  | _ => cases hy <;> exact h.elim
def qI0 (g : Int → Int → PyData) : PyData → PyData → DP := fun d e Q => match d, e with
  | .int i, .int j => Q (g i j)
  | _, _ => False
theorem lr_I0 {f : Int → Int → V} {g : Int → Int → PyData} (hg : ∀ i j H, Dq H (f i j) (g i j)) : LR (rI0 f) (qI0 g) := fun hh H x y d e Q Q1 hd hx hy h q => by
  cases hx with
  | int i =>
    cases hy with
    | int j => exact ⟨i, j, rfl, rfl, q _ _ _ h (Same.refl H) (hg _ _ _)⟩
    | _ => exact h.elim
  | _ => cases hy <;> exact h.elim
def qSub : PyData → PyData → DP := qI0 fun i j => .int (i - j)
def qDiv : PyData → PyData → DP := qI CDivW fun i j => .int (i / j)
def qMod : PyData → PyData → DP := qI (fun _ j => j ≠ 0) fun i j => .int (i.fmod j)
def qPow : PyData → PyData → DP := qI CPow fun i j => .int (i ^ j.toNat)
theorem l_sub (ha : PL X a ta pa) (hb : PL X b tb pb) : PL X (.BinOp a .Sub b pos) (tOp (rI0 fun i j => V.int (i - j)) ta tb) (dOp qSub pa pb) := ⟨pe_op op_sub ha.pe hb.pe, lf_op (lr_I0 fun _ _ _ => .int _) ha.lf hb.lf⟩
theorem l_div (ha : PL X a ta pa) (hb : PL X b tb pb) : PL X (.BinOp a .FloorDiv b pos) (tOp (rI CDivW fun i j => V.int (i / j)) ta tb) (dOp qDiv pa pb) := ⟨pe_op op_fdivW ha.pe hb.pe, lf_op (lr_I fun _ _ _ => .int _) ha.lf hb.lf⟩
theorem l_mod (ha : PL X a ta pa) (hb : PL X b tb pb) : PL X (.BinOp a .Mod b pos) (tOp (rI (fun _ j => j ≠ 0) fun i j => V.int (i.fmod j)) ta tb) (dOp qMod pa pb) := ⟨pe_op op_modN ha.pe hb.pe, lf_op (lr_I fun _ _ _ => .int _) ha.lf hb.lf⟩
theorem l_pow (ha : PL X a ta pa) (hb : PL X b tb pb) : PL X (.BinOp a .Pow b pos) (tOp (rI CPow fun i j => V.int (i ^ j.toNat)) ta tb) (dOp qPow pa pb) := ⟨pe_op op_pow ha.pe hb.pe, lf_op (lr_I fun _ _ _ => .int _) ha.lf hb.lf⟩

/-! the text so many times -/
def srep (x : Str) (n : Nat) : Str := ⟨(List.replicate n x.cps).foldl (· ++ ·) #[]⟩
theorem srep_zero (x : Str) : srep x 0 = Str.empty := rfl
theorem foldl_app_list : ∀ (l : List (Array Nat)) (z : Array Nat), (l.foldl (· ++ ·) z).toList = z.toList ++ (l.map Array.toList).flatten
  | [], z => by simp
  | y :: r, z => by
    rw [List.foldl_cons, foldl_app_list r (z ++ y), List.map_cons, List.flatten_cons, Array.toList_append, List.append_assoc]
theorem srep_list (x : Str) (n : Nat) : (srep x n).cps.toList = (List.replicate n x.cps.toList).flatten := by
  show ((List.replicate n x.cps).foldl (· ++ ·) #[]).toList = _
  rw [foldl_app_list]
  simp
theorem str_ext {x y : Str} (h : x.cps.toList = y.cps.toList) : x = y := by
  cases x
  cases y
  congr 1
  exact Array.toList_inj.mp h
def rRepS : R2 := fun x y H Q => ∃ z k, x = .str z ∧ y = .int k ∧ k < 2 ^ 63 ∧ -(2 ^ 63) ≤ k ∧ z.length * k.toNat ≤ sizeLine ∧ Q (.str (srep z k.toNat)) H
theorem str_len (x : Str) : x.length = x.cps.toList.length := by
  show x.cps.size = _
  simp
theorem op_repS : OpR X (binaryOp .Mult) rRepS := by
  intro pins s σ H x y v u Q I rx ry h
  obtain ⟨z, k, rfl, rfl, h1, h2, h3, q⟩ := h
  obtain ⟨t, rfl⟩ := rx
  obtain ⟨t', rfl⟩ := ry
  have hr : (decide (k < -(2 ^ 63 : Int)) || decide (k ≥ 2 ^ 63)) = false := by
    rw [decide_eq_false (by omega), decide_eq_false (by omega)]; rfl
  refine PySem.P.mul_str hr (fun g1 g2 => ?_) (fun g1 g2 => ?_) ?_
  · have hk : 0 < k := by omega
    intro hc
    have hz : (z.length : Int) * k ≤ sizeLine := by
      have e : ((z.length * k.toNat : Nat) : Int) = (z.length : Int) * k := by rw [Int.natCast_mul, Int.toNat_of_nonneg (by omega)]
      omega
    have hz2 : (sizeLine : Int) ≤ 2 ^ 63 - 1 := by decide
    have : (z.length : Int) ≤ (2 ^ 63 - 1) / k := (Int.le_ediv_iff_mul_le hk).mpr (by omega)
    omega
  · exact decide_eq_false (Nat.not_lt.mpr h3)
  · by_cases c1 : k < 1
    · rw [if_pos c1]
      have e : k.toNat = 0 := by omega
      rw [e] at q
      exact ⟨by decide, .str _, H, I.tok _, ⟨_, rfl⟩, q⟩
    · rw [if_neg c1]
      by_cases c2 : (k == 1 || z.length == 0) = true
      · rw [if_pos c2]
        have e : srep z k.toNat = z := by
          refine str_ext ?_
          rw [srep_list]
          rcases Bool.or_eq_true_iff.mp c2 with c | c
          · have : k = 1 := by simpa using c
            subst this
            simp
          · have hz : z.cps.toList = [] := List.eq_nil_of_length_eq_zero (by rw [← str_len]; simpa using c)
            rw [hz]
            simp
        rw [e] at q
        exact ⟨.str z, H, I, ⟨t, rfl⟩, q⟩
      · rw [if_neg c2]
        refine ⟨?_, .str _, H, I.tok _, ⟨_, rfl⟩, q⟩
        show (srep z k.toNat).length ≤ sizeLine
        rw [str_len, srep_list, List.length_flatten, List.map_replicate, List.sum_replicate_nat, ← str_len, Nat.mul_comm]
        exact h3
end
end Ev

namespace Ev
open PySem PySem.Spec PyProof.Rows L2
theorem tmul_one (l : Addr) (items : Array Value) (n : Nat) (dd : Option Addr) (sl : Array (Option Value)) (x : Int) (u : Tok) (c0 : (decide (x < -(2 ^ 63)) || decide (x ≥ 2 ^ 63)) = false) (c1 : (items.isEmpty || x == 1) = true) :
    Meets (Builtin.«tuple.__mul__» ⟨[.ref l, .int x u], []⟩) (fun _ R s => s.heap.get? l = some { cls := .type "tuple", dict := dd, data := .seq items n, slots := sl } ∧ R (.ok (.ret (.ref l))) s) :=
  .of_wp fun prog w A R s h => by
    obtain ⟨hp, g, d, tk, os⟩ := s
    obtain ⟨hl, h⟩ := h
    have f1 := AutoSeq1.idx_int
    wp_walk using wpAny_loadPart' hl
    repeat (first
      | (refine wpAny_ite_false (decide_eq_false (by rw [c0]; exact Bool.false_ne_true)) ?_; wp_walk using wpAny_loadPart' hl)
      | (refine wpAny_ite_true (decide_eq_true (by rw [c1])) ?_; wp_walk using wpAny_loadPart' hl))
    exact ⟨_, rfl, h⟩
theorem tmul_none (l : Addr) (items : Array Value) (n : Nat) (dd : Option Addr) (sl : Array (Option Value)) (x : Int) (u : Tok) (c0 : (decide (x < -(2 ^ 63)) || decide (x ≥ 2 ^ 63)) = false) (c1 : (items.isEmpty || x == 1) = false) (c2 : (decide (x ≤ 0) || items.isEmpty) = true) :
    Meets (Builtin.«tuple.__mul__» ⟨[.ref l, .int x u], []⟩) (fun _ R s => s.heap.get? l = some { cls := .type "tuple", dict := dd, data := .seq items n, slots := sl } ∧
      R (.ok (.ret (Value.ref s.heap.objs.size))) { s with heap := s.heap.push { cls := Value.type "tuple", data := Data.seq #[] }, toks := s.toks }) :=
  .of_wp fun prog w A R s h => by
    obtain ⟨hp, g, d, tk, os⟩ := s
    obtain ⟨hl, h⟩ := h
    have f1 := AutoSeq1.idx_int
    wp_walk using wpAny_loadPart' hl
    repeat (first
      | (refine wpAny_ite_false (decide_eq_false (by rw [c0]; exact Bool.false_ne_true)) ?_; wp_walk using wpAny_loadPart' hl)
      | (refine wpAny_ite_false (decide_eq_false (by rw [c1]; exact Bool.false_ne_true)) ?_; wp_walk using wpAny_loadPart' hl)
      | (refine wpAny_ite_true (decide_eq_true (by rw [c2])) ?_; wp_walk using wpAny_loadPart' hl))
    exact ⟨_, rfl, h⟩
/-- a tuple at most once: itself, or a new empty one -/
def rRepU (K : PySem.W.Frag) : R2 := fun x y H Q => ∃ l k xs, x = .ref l ∧ y = .int k ∧ SqT K H l xs ∧ -1000 ≤ k ∧ k ≤ 1000 ∧ ((xs = [] ∨ k = 1) ∧ Q (.ref l) H ∨ (xs ≠ [] ∧ k ≤ 0 ∧ ∀ p, H p = none → Q (.ref p) (upd H p (.tup []))))
section
variable {X : Cx} {e a b c : Expr} {es : List Expr} {t ta tb tc : TE} {tt tu : TT} {tA : TA} {p pa pb pc : DE} {pt pu : DT} {pA : DA} {pos : Pos}
theorem op_repU : OpR X (binaryOp .Mult) (rRepU X.K) := by
  intro pins s σ H x y v u Q I rx ry h
  obtain ⟨l, k, xs, rfl, rfl, hT, h1, h2, h⟩ := h
  cases rx
  obtain ⟨t, rfl⟩ := ry
  obtain ⟨its, r, ⟨⟨cls, dd, data, sl⟩, ho, hc, n, hd⟩, hs⟩ := I.tuple hT
  simp only at hc hd
  subst hc hd
  have hle : its.length = xs.length := r.length.symm
  have c0 : (decide (k < -(2 ^ 63)) || decide (k ≥ 2 ^ 63)) = false := by
    rw [decide_eq_false (by omega), decide_eq_false (by omega)] <;> rfl
  rcases h with ⟨h, q⟩ | ⟨hne, hk, q⟩
  · have c1 : (its.toArray.isEmpty || k == 1) = true := by
      rcases h with h | h
      · subst h
        cases its with
        | nil => rfl
        | cons a b => simp at hle
      · subst h
        simp
    exact wpAny_binaryOp_repeat_ref (T := "tuple") (U := "int") (by decide) ⟨_, ho, rfl⟩ (fun s' => typeIs_int s' k t) noFill_tuple_mul F.fills_int_mul F.slot_int_rmul repeat_tuple F.slot_int_index.lookup
      (call_meets F.slot_int_rmul (typeIs_int s k t) F.entry_int_rmul (F.args_int_rmul_2 _ _) (int_rmul_tuple k t l its.toArray n dd sl)
        ⟨ho, rfl, ⟨_, ho, rfl⟩, call_meets F.slot_tuple_mul ⟨_, ho, rfl⟩ F.entry_tuple_mul (F.args_tuple_mul_2 _ _) (tmul_one l its.toArray n dd sl k t c0 c1) ⟨ho, .ref l, H, I, rfl, q⟩⟩)
  · have hi : its.toArray.isEmpty = false := by
      cases its with
      | nil => exact absurd (List.eq_nil_of_length_eq_zero hle.symm) hne
      | cons a b => rfl
    have c1 : (its.toArray.isEmpty || k == 1) = false := by
      rw [hi, Bool.false_or]
      exact beq_eq_false_iff_ne.mpr (by omega)
    have c2 : (decide (k ≤ 0) || its.toArray.isEmpty) = true := by
      rw [hi, Bool.or_false]
      exact decide_eq_true hk
    exact wpAny_binaryOp_repeat_ref (T := "tuple") (U := "int") (by decide) ⟨_, ho, rfl⟩ (fun s' => typeIs_int s' k t) noFill_tuple_mul F.fills_int_mul F.slot_int_rmul repeat_tuple F.slot_int_index.lookup
      (call_meets F.slot_int_rmul (typeIs_int s k t) F.entry_int_rmul (F.args_int_rmul_2 _ _) (int_rmul_tuple k t l its.toArray n dd sl)
        ⟨ho, rfl, ⟨_, ho, rfl⟩, call_meets F.slot_tuple_mul ⟨_, ho, rfl⟩ F.entry_tuple_mul (F.args_tuple_mul_2 _ _) (tmul_none l its.toArray n dd sl k t c0 c1 c2)
          ⟨ho, .ref s.heap.objs.size, _, I.laid (t' := s.toks) (o := .tup []) (fun b ob q => Heap.get?_push_of_some _ q) (Nat.le_refl _) ⟨Nat.zero_le _, [], .nil, IsTup.new _ _⟩, rfl, q _ (I.hok.fresh (Nat.le_refl _))⟩⟩)

/-- a product -/
def qMul : PyData → PyData → DP := fun d e Q => match d, e with
  | .int i, .int j => CMulW i j ∧ Q (.int (i * j))
  | .str z, .int k => -(2 ^ 63) ≤ k ∧ k < 2 ^ 63 ∧ z.length * k.toNat ≤ sizeLine ∧ Q (.str (srep z k.toNat))
  | .tuple xs, .int k => -1000 ≤ k ∧ k ≤ 1000 ∧ xs.length ≤ 1000 ∧ Q (.tuple (List.replicate k.toNat xs).flatten)
  | .list xs, .int k => -(2 ^ 63) ≤ k ∧ k < 2 ^ 63 ∧ xs.length * k.toNat ≤ sizeLine ∧ Q (.list (List.replicate k.toNat xs).flatten)
  | _, _ => False
def rMul' (K : PySem.W.Frag) : R2 := fun x y H Q => ((((rI CMulW fun i j => V.int (i * j)) x y H Q ∨ rRepS x y H Q) ∨ rRepT K x y H Q) ∨ rRepU K x y H Q) ∨ rRep x y H Q
theorem op_mul' : OpR X (binaryOp .Mult) (rMul' X.K) := OpR.or (OpR.or (OpR.or (OpR.or op_mulW op_repS) op_repT) op_repU) op_rep
theorem lr_mul {K : PySem.W.Frag} : LR (rMul' K) qMul := fun hh H x y d e Q Q1 hd hx hy h q => by
  cases hx with
  | int i =>
    cases hy with
    | int j => exact .inl (.inl (.inl (.inl ⟨i, j, rfl, rfl, h.1, q _ _ _ h.2 (Same.refl H) (.int _)⟩)))
    | _ => exact h.elim
  | str z =>
    cases hy with
    | int k => exact .inl (.inl (.inl (.inr ⟨z, k, rfl, rfl, h.2.1, h.1, h.2.2.1, q _ _ _ h.2.2.2 (Same.refl H) (.str _)⟩)))
    | _ => exact h.elim
  | @tup a vs ds ha hA =>
    cases hy with
    | int k =>
      have l1 := hA.len
      obtain ⟨h1, h2, h3, h4⟩ := h
      by_cases hn : vs = []
      · subst hn
        cases hA
        have e : (List.replicate k.toNat ([] : List PyData)).flatten = [] := by simp
        rw [e] at h4
        exact .inl (.inr ⟨a, k, [], rfl, rfl, SqT.of (hsub ha), h1, h2, .inl ⟨.inl rfl, q _ _ _ h4 (Same.refl H) (.tup ha .nil)⟩⟩)
      · by_cases hk1 : k = 1
        · subst hk1
          have e : (List.replicate (1 : Int).toNat ds).flatten = ds := by simp
          rw [e] at h4
          exact .inl (.inr ⟨a, 1, vs, rfl, rfl, SqT.of (hsub ha), h1, h2, .inl ⟨.inr rfl, q _ _ _ h4 (Same.refl H) (.tup ha hA)⟩⟩)
        · by_cases hk0 : k ≤ 0
          · have e : k.toNat = 0 := by omega
            rw [e] at h4
            refine .inl (.inr ⟨a, k, vs, rfl, rfl, SqT.of (hsub ha), h1, h2, .inr ⟨hn, hk0, fun p hp => ?_⟩⟩)
            obtain ⟨g1, g2⟩ := new_tup hd (vs := []) (ds := []) .nil hp
            exact q _ _ _ h4 g1 g2
          · refine .inl (.inl (.inr ⟨a, k, vs, rfl, rfl, SqT.of (hsub ha), hn, by omega, by omega, by omega, fun p hp => ?_⟩))
            obtain ⟨g1, g2⟩ := new_tup hd (hA.rep k.toNat) hp
            exact q _ _ _ h4 g1 g2
    | _ => exact h.elim
  | @lst a vs ds ha hA =>
    cases hy with
    | int k =>
      have l1 := hA.len
      obtain ⟨h1, h2, h3, h4⟩ := h
      refine .inr ⟨a, k, vs, rfl, rfl, hsub ha, h1, h2, by rw [l1]; exact h3, fun p hp => ?_⟩
      obtain ⟨g1, g2⟩ := new_lst hd (hA.rep k.toNat) hp
      exact q _ _ _ h4 g1 g2
    | _ => exact h.elim
  | _ => cases hy <;> exact h.elim
theorem l_mul (ha : PL X a ta pa) (hb : PL X b tb pb) : PL X (.BinOp a .Mult b pos) (tOp (rMul' X.K) ta tb) (dOp qMul pa pb) := ⟨pe_op op_mul' ha.pe hb.pe, lf_op lr_mul ha.lf hb.lf⟩

/-! comparisons -/
def qCmp (f : Int → Int → Bool) : PyData → PyData → DP := qI0 fun i j => .bool (f i j)
def qLt := qCmp fun i j => decide (i < j)
def qLe := qCmp fun i j => decide (i ≤ j)
def qGt := qCmp fun i j => decide (i > j)
def qGe := qCmp fun i j => decide (i ≥ j)
def okD (d : PyData) : Bool := PyData.plain d && decide (PyData.depth d ≤ 64)
def qEq : PyData → PyData → DP := fun d e Q => okD d = true ∧ okD e = true ∧ Q (.bool (PyData.eqv d e))
def qNe : PyData → PyData → DP := fun d e Q => okD d = true ∧ okD e = true ∧ Q (.bool (!PyData.eqv d e))
def rEqP (K : PySem.W.Frag) : R2 := fun x y H Q => ∃ d e, Dp K H x d ∧ Dp K H y e ∧ okD d = true ∧ okD e = true ∧ Q (.bl (PyData.eqv d e)) H
def rNeP (K : PySem.W.Frag) : R2 := fun x y H Q => ∃ d e, Dp K H x d ∧ Dp K H y e ∧ okD d = true ∧ okD e = true ∧ Q (.bl (!PyData.eqv d e)) H
theorem okD_of {d : PyData} (h : okD d = true) : PyData.plain d = true ∧ PyData.depth d ≤ 64 := by
  unfold okD at h
  obtain ⟨h1, h2⟩ := Bool.and_eq_true_iff.mp h
  exact ⟨h1, of_decide_eq_true h2⟩
theorem op_eqP (hu : X.A.units + 64 < cLine) : OpR X (compareOp .Eq) (rEqP X.K) := by
  intro pins s σ H x y v u Q I rx ry h
  obtain ⟨d, e, hd, he, sd, se, q⟩ := h
  obtain ⟨as, r1⟩ := Dp.reads I d x v hd rx
  obtain ⟨bs, r2⟩ := Dp.reads I e y u he ry
  have h1 := okD_of sd
  have h2 := okD_of se
  exact SeqAt.eq_plain r1 r2 h1.1 h2.1 (by omega) ⟨.bl _, H, I, rfl, q⟩
theorem op_neP (hu : X.A.units + 64 < cLine) : OpR X (compareOp .NotEq) (rNeP X.K) := by
  intro pins s σ H x y v u Q I rx ry h
  obtain ⟨d, e, hd, he, sd, se, q⟩ := h
  obtain ⟨as, r1⟩ := Dp.reads I d x v hd rx
  obtain ⟨bs, r2⟩ := Dp.reads I e y u he ry
  have h1 := okD_of sd
  have h2 := okD_of se
  exact SeqAt.ne_plain r1 r2 h1.1 h2.1 (by omega) ⟨.bl _, H, I, rfl, q⟩
theorem lr_eq {K : PySem.W.Frag} : LR (rEqP K) qEq := fun hh H x y d e Q Q1 hd hx hy h q =>
  ⟨d, e, (hx.same hw_sub).dp, (hy.same hw_sub).dp, h.1, h.2.1, q _ _ _ h.2.2 (Same.refl H) (.bl _)⟩
theorem lr_ne {K : PySem.W.Frag} : LR (rNeP K) qNe := fun hh H x y d e Q Q1 hd hx hy h q =>
  ⟨d, e, (hx.same hw_sub).dp, (hy.same hw_sub).dp, h.1, h.2.1, q _ _ _ h.2.2 (Same.refl H) (.bl _)⟩
/-- is None, is True -/
def qIs : PyData → PyData → DP := fun d e Q => match e, d with
  | .none, .none => Q (.bool true)
  | .none, _ => Q (.bool false)
  | .bool y, .bool x => Q (.bool (decide (x = y)))
  | .bool _, .int _ => Q (.bool false)
  | _, _ => False
def qIsNot : PyData → PyData → DP := fun d e Q => match e, d with
  | .none, .none => Q (.bool false)
  | .none, _ => Q (.bool true)
  | .bool y, .bool x => Q (.bool (!decide (x = y)))
  | .bool _, .int _ => Q (.bool true)
  | _, _ => False
/-- a whole number is no bool -/
def rIsIB : R2 := fun x y H Q => ∃ (i : Int) (b : Bool), x = .int i ∧ y = .bl b ∧ Q (.bl false) H
def rNotIB : R2 := fun x y H Q => ∃ (i : Int) (b : Bool), x = .int i ∧ y = .bl b ∧ Q (.bl true) H
theorem op_isIB {X : Cx} : OpR X (compareOp .Is) rIsIB := by
  intro pins s σ H x y v u Q I rx ry h
  obtain ⟨i, b, rfl, rfl, q⟩ := h
  obtain ⟨t, rfl⟩ := (show ∃ t, v = Value.int i t from rx)
  cases (show u = Value.bool b from ry)
  exact wpAny_is_other rfl (fun z => nomatch z) ⟨.bl false, H, I, rfl, q⟩
theorem op_notIB {X : Cx} : OpR X (compareOp .IsNot) rNotIB := by
  intro pins s σ H x y v u Q I rx ry h
  obtain ⟨i, b, rfl, rfl, q⟩ := h
  obtain ⟨t, rfl⟩ := (show ∃ t, v = Value.int i t from rx)
  cases (show u = Value.bool b from ry)
  exact wpAny_isNot_other rfl (fun z => nomatch z) ⟨.bl true, H, I, rfl, q⟩
def rIs' : R2 := fun x y H Q => (y = .non ∧ Q (.bl (decide (x = .non))) H) ∨ rIsB x y H Q ∨ rIsIB x y H Q
def rIsNot' : R2 := fun x y H Q => (y = .non ∧ Q (.bl (!decide (x = .non))) H) ∨ rNotB x y H Q ∨ rNotIB x y H Q
theorem lr_is : LR rIs' qIs := fun hh H x y d e Q Q1 hd hx hy h q => by
  cases hy with
  | non =>
    cases hx with
    | non => exact .inl ⟨rfl, q _ _ _ h (Same.refl H) (.bl true)⟩
    | _ => exact .inl ⟨rfl, q _ _ _ h (Same.refl H) (.bl false)⟩
  | bl y =>
    cases hx with
    | bl x => exact .inr (.inl ⟨x, y, rfl, rfl, q _ _ _ h (Same.refl H) (.bl _)⟩)
    | int x => exact .inr (.inr ⟨x, y, rfl, rfl, q _ _ _ h (Same.refl H) (.bl _)⟩)
    | _ => exact h.elim
  | _ => exact h.elim
theorem lr_isNot : LR rIsNot' qIsNot := fun hh H x y d e Q Q1 hd hx hy h q => by
  cases hy with
  | non =>
    cases hx with
    | non => exact .inl ⟨rfl, q _ _ _ h (Same.refl H) (.bl false)⟩
    | _ => exact .inl ⟨rfl, q _ _ _ h (Same.refl H) (.bl true)⟩
  | bl y =>
    cases hx with
    | bl x => exact .inr (.inl ⟨x, y, rfl, rfl, q _ _ _ h (Same.refl H) (.bl _)⟩)
    | int x => exact .inr (.inr ⟨x, y, rfl, rfl, q _ _ _ h (Same.refl H) (.bl _)⟩)
    | _ => exact h.elim
  | _ => exact h.elim
/-- in, not in of texts -/
def inS (x y : Str) : Bool := !(Builtin.Str.occurrences y x 0 y.length 1).isEmpty
def qIn : PyData → PyData → DP := fun d e Q => match d, e with
  | .str x, .str y => Q (.bool (inS x y))
  | _, _ => False
def qNotIn : PyData → PyData → DP := fun d e Q => match d, e with
  | .str x, .str y => Q (.bool (!inS x y))
  | _, _ => False
def rIn' : R2 := fun x y H Q => ∃ i j, x = V.str i ∧ y = V.str j ∧ Q (V.bl !(Builtin.Str.occurrences j i 0 j.length 1).isEmpty) H
def rNotIn' : R2 := fun x y H Q => ∃ i j, x = V.str i ∧ y = V.str j ∧ Q (V.bl !!(Builtin.Str.occurrences j i 0 j.length 1).isEmpty) H
theorem lr_in : LR rIn' qIn := fun hh H x y d e Q Q1 hd hx hy h q => by
  cases hx with
  | str i =>
    cases hy with
    | str j => exact ⟨i, j, rfl, rfl, q _ _ _ h (Same.refl H) (.bl _)⟩
    | _ => exact h.elim
  | _ => cases hy <;> exact h.elim
theorem lr_notIn : LR rNotIn' qNotIn := fun hh H x y d e Q Q1 hd hx hy h q => by
  cases hx with
  | str i =>
    cases hy with
    | str j => exact ⟨i, j, rfl, rfl, q _ _ _ h (Same.refl H) (.bl _)⟩
    | _ => exact h.elim
  | _ => cases hy <;> exact h.elim
/-- a comparison: the operator's rule and what it tells -/
structure CR2 (X : Cx) (op : CmpOp) (r : R2) (q : PyData → PyData → DP) : Prop where
  op : OpR X (compareOp op) r
  lr : LR r q
theorem c_lt : CR2 X .Lt (rI0 fun i j => V.bl (decide (i < j))) qLt := ⟨op_lt, lr_I0 fun _ _ _ => .bl _⟩
theorem c_le : CR2 X .LtE (rI0 fun i j => V.bl (decide (i ≤ j))) qLe := ⟨op_le, lr_I0 fun _ _ _ => .bl _⟩
theorem c_gt : CR2 X .Gt (rI0 fun i j => V.bl (decide (i > j))) qGt := ⟨op_gt, lr_I0 fun _ _ _ => .bl _⟩
theorem c_ge : CR2 X .GtE (rI0 fun i j => V.bl (decide (i ≥ j))) qGe := ⟨op_ge, lr_I0 fun _ _ _ => .bl _⟩
theorem c_eq (hu : X.A.units + 64 < cLine) : CR2 X .Eq (rEqP X.K) qEq := ⟨op_eqP hu, lr_eq⟩
theorem c_ne (hu : X.A.units + 64 < cLine) : CR2 X .NotEq (rNeP X.K) qNe := ⟨op_neP hu, lr_ne⟩
theorem c_is : CR2 X .Is rIs' qIs := ⟨OpR.or op_isN (OpR.or op_isBl op_isIB), lr_is⟩
theorem c_isNot : CR2 X .IsNot rIsNot' qIsNot := ⟨OpR.or op_notN (OpR.or op_notBl op_notIB), lr_isNot⟩
theorem c_in : CR2 X .In rIn' qIn := ⟨op_in_str, lr_in⟩
theorem c_notIn : CR2 X .NotIn rNotIn' qNotIn := ⟨op_notIn_str, lr_notIn⟩
theorem l_cmp {op : CmpOp} {r : R2} {q : PyData → PyData → DP} (ho : CR2 X op r q) (ha : PL X a ta pa) (hb : PL X b tb pb) (hm : behindInMarks op b = false := by rfl) : PL X (.Compare a [op] [b] pos) (tOp r ta tb) (dOp q pa pb) :=
  ⟨pe_cmpR ho.op ha.pe hb.pe hm, lf_op ho.lr ha.lf hb.lf⟩
def dTest (p : DE) : DT := fun ss n Q => p ss n fun d n' => ∃ b, d = .bool b ∧ Q b n'
theorem lf_test (h : Lf t p) : LfT (tTest t) (dTest p) := fun g H0 σ H ss n w Q Q1 k hp q =>
  h g H0 σ H ss n w _ _ k hp fun d n' v H' h1 e1 k1 r1 => by
    obtain ⟨b, rfl, h1⟩ := h1
    cases r1
    exact ⟨b, rfl, q _ _ _ h1 e1 k1⟩
theorem lt_cmp {op : CmpOp} {r : R2} {q : PyData → PyData → DP} (ho : CR2 X op r q) (ha : PL X a ta pa) (hb : PL X b tb pb) (hm : behindInMarks op b = false := by rfl) : PLT X (.Compare a [op] [b] pos) (tTest (tOp r ta tb)) (dTest (dOp q pa pb)) :=
  ⟨pt_cmpR ho.op ha.pe hb.pe hm, lf_test (lf_op ho.lr ha.lf hb.lf)⟩
/-- a op b op' c -/
def dChain (q q' : PyData → PyData → DP) (pa pb pc : DE) : DE := fun ss n Q => pa ss n fun d n1 => pb ss n1 fun e n2 => q d e fun f => ∃ k, f = .bool k ∧ if k = true then pc ss n2 fun z n3 => q' e z fun f' => Q f' n3 else Q (.bool false) n2
theorem l_chain {op op' : CmpOp} {r r' : R2} {q q' : PyData → PyData → DP} (ho : CR2 X op r q) (ho' : CR2 X op' r' q') (ha : PL X a ta pa) (hb : PL X b tb pb) (hc : PL X c tc pc) (hm : lastMarks [op, op'] [b, c] = false := by with_unfolding_all rfl) :
    PL X (.Compare a [op, op'] [b, c] pos) (tChain r r' ta tb tc) (dChain q q' pa pb pc) := by
  refine ⟨pe_chain ho.op ho'.op ha.pe hb.pe hc.pe hm, fun g H0 σ H ss n w Q Q1 k h hq => ?_⟩
  refine ha.lf g H0 σ H ss n w _ _ k h fun d n1 v H1 h1 e1 k1 r1 => hb.lf g H0 σ H1 ss n1 w _ _ k1 h1 fun e n2 u H2 h2 e2 k2 r2 => ?_
  refine ho.lr g.h H2 v u d e _ _ k2.hd (r1.same (h0_ed e2)) r2 h2 fun z H3 f h3 e3 r3 => ?_
  obtain ⟨b, rfl, h3⟩ := h3
  cases r3
  refine ⟨b, rfl, ?_⟩
  have k3 := k2.same e3
  cases b with
  | true =>
    rw [if_pos rfl] at h3 ⊢
    refine hc.lf g H0 σ H3 ss n2 w _ _ k3 h3 fun z n3 x H4 h4 e4 k4 r4 => ?_
    exact ho'.lr g.h H4 u x e z _ _ k4.hd ((r2.same (hw_same e3)).same (h0_ed e4)) r4 h4 fun z' H5 f' h5 e5 r5 => hq f' n3 z' H5 h5 ((((e1.trans e2).trans (Ed.of e3)).trans e4).trans (Ed.of e5)) (k4.same e5) r5
  | false =>
    rw [if_neg Bool.false_ne_true] at h3 ⊢
    exact hq _ _ _ _ h3 ((e1.trans e2).trans (Ed.of e3)) k3 (.bl false)
end
end Ev

namespace Ev
open PySem PySem.Spec PyProof.Rows L2
/-! ### tests -/
def qTru : PyData → (Bool → Prop) → Prop := fun d Q => match d with
  | .none => Q false
  | .bool b => Q b
  | .int i => Q (i != 0)
  | .str y => y.length ≤ sizeLine ∧ Q ((y.length : Int) != 0)
  | .list xs => Q (!xs.isEmpty)
  | .tuple xs => Q (!xs.isEmpty)
  | _ => False
theorem isEmpty_len {α β : Type} {xs : List α} {ys : List β} (h : xs.length = ys.length) : xs.isEmpty = ys.isEmpty := by
  cases xs <;> cases ys <;> first | rfl | simp at h
theorem tru_of {K : PySem.W.Frag} {H H1 : Hp} {v : V} {d : PyData} {Q : Bool → Prop} (s : Same H1 H) (h : Dq H1 v d) (q : qTru d Q) : ∃ k, TruV K v H k ∧ Q k := by
  cases h with
  | non => exact ⟨false, rfl, q⟩
  | bl b => exact ⟨b, rfl, q⟩
  | int i => exact ⟨_, rfl, q⟩
  | str y => exact ⟨_, ⟨q.1, rfl⟩, q.2⟩
  | @lst a vs ds ha hA => exact ⟨_, .inl ⟨vs, SqL.of (s _ _ ha), rfl⟩, by rw [isEmpty_len hA.len]; exact q⟩
  | @tup a vs ds ha hA => exact ⟨_, .inr (.inl ⟨vs, SqT.of (s _ _ ha), rfl⟩), by rw [isEmpty_len hA.len]; exact q⟩
section
variable {X : Cx} {e a b c : Expr} {es : List Expr} {t ta tb tc : TE} {tt tu : TT} {tA : TA} {p pa pb pc : DE} {pt pu : DT} {pA : DA} {pos apos : Pos}
def tTru (K : PySem.W.Frag) (ta : TE) : TT := fun σ H Q => ta σ H fun x H' => ∃ k, TruV K x H' k ∧ Q k H'
def dTru (p : DE) : DT := fun ss n Q => p ss n fun d n' => qTru d fun b => Q b n'
theorem lf_tru {K : PySem.W.Frag} (h : Lf t p) : LfT (tTru K t) (dTru p) := fun g H0 σ H ss n w Q Q1 k hp q =>
  h g H0 σ H ss n w _ _ k hp fun d n' v H' h1 e1 k1 r1 => by
    obtain ⟨b, h2, h3⟩ := tru_of (K := K) hw_sub r1 h1
    exact ⟨b, h2, q _ _ _ h3 e1 k1⟩
theorem lt_tru (ha : PL X a ta pa) (h : ∀ (whole : Sem Value), PySem.isTrue a X.env whole = do { let v ← whole; standAt a.pos; holding [v] (truthy v) } := by intro _; rfl) : PLT X a (tTru X.K ta) (dTru pa) := ⟨pt_truth ha.pe h, lf_tru ha.lf⟩
def dNot (p : DT) : DT := fun ss n Q => p ss n fun b n' => Q (!b) n'
theorem lt_not (ha : PLT X a tt pt) : PLT X (.UnaryOp .Not a pos) (tNot tt) (dNot pt) := ⟨pt_not ha.pt, fun g H0 σ H ss n w Q Q1 k hp q => ha.lf g H0 σ H ss n w _ _ k hp fun b n' H' h1 e1 k1 => q _ _ _ h1 e1 k1⟩
def dAnd (p r : DT) : DT := fun ss n Q => p ss n fun b n' => if b = true then r ss n' Q else Q false n'
def dOr (p r : DT) : DT := fun ss n Q => p ss n fun b n' => if b = true then Q true n' else r ss n' Q
theorem lf_and (ha : LfT tt pt) (hb : LfT tu pu) : LfT (tAnd tt tu) (dAnd pt pu) := fun g H0 σ H ss n w Q Q1 k hp q => ha g H0 σ H ss n w _ _ k hp fun b n' H' h1 e1 k1 => by
  cases b with
  | true =>
    rw [if_pos rfl] at h1 ⊢
    exact hb g H0 σ H' ss n' w _ _ k1 h1 fun b n2 H2 h2 e2 k2 => q _ _ _ h2 (e1.trans e2) k2
  | false =>
    rw [if_neg Bool.false_ne_true] at h1 ⊢
    exact q _ _ _ h1 e1 k1
theorem lf_or (ha : LfT tt pt) (hb : LfT tu pu) : LfT (tOr tt tu) (dOr pt pu) := fun g H0 σ H ss n w Q Q1 k hp q => ha g H0 σ H ss n w _ _ k hp fun b n' H' h1 e1 k1 => by
  cases b with
  | true =>
    rw [if_pos rfl] at h1 ⊢
    exact q _ _ _ h1 e1 k1
  | false =>
    rw [if_neg Bool.false_ne_true] at h1 ⊢
    exact hb g H0 σ H' ss n' w _ _ k1 h1 fun b n2 H2 h2 e2 k2 => q _ _ _ h2 (e1.trans e2) k2
theorem lw_and {rest : List Expr} (ha : PLT X a tt pt) (hb : PLW X (.BoolOp .And (b :: rest) pos) tu pu) : PLW X (.BoolOp .And (a :: b :: rest) pos) (tAnd tt tu) (dAnd pt pu) := ⟨pw_and ha.pt hb.pw, lf_and ha.lf hb.lf⟩
theorem lw_and1 (ha : PLT X a tt pt) : PLW X (.BoolOp .And [a] pos) tt pt := ⟨pw_and1 ha.pt, ha.lf⟩
theorem lw_or {rest : List Expr} (ha : PLT X a tt pt) (hb : PLW X (.BoolOp .Or (b :: rest) pos) tu pu) : PLW X (.BoolOp .Or (a :: b :: rest) pos) (tOr tt tu) (dOr pt pu) := ⟨pw_or ha.pt hb.pw, lf_or ha.lf hb.lf⟩
theorem lw_or1 (ha : PLT X a tt pt) : PLW X (.BoolOp .Or [a] pos) tt pt := ⟨pw_or1 ha.pt, ha.lf⟩
/-! the same as values -/
def dNotV (p : DE) : DE := fun ss n Q => p ss n fun d n' => qTru d fun b => Q (.bool (!b)) n'
theorem l_not (ha : PL X a ta pa) : PL X (.UnaryOp .Not a pos) (tNotT X.K ta) (dNotV pa) := ⟨pe_notT ha.pe, fun g H0 σ H ss n w Q Q1 k hp q => ha.lf g H0 σ H ss n w _ _ k hp fun d n' v H' h1 e1 k1 r1 => by
  obtain ⟨b, h2, h3⟩ := tru_of (K := X.K) hw_sub r1 h1
  exact ⟨b, h2, q _ _ _ _ h3 e1 k1 (.bl _)⟩⟩
def dAndV (p r : DE) : DE := fun ss n Q => p ss n fun d n' => qTru d fun b => if b = true then r ss n' Q else Q d n'
def dOrV (p r : DE) : DE := fun ss n Q => p ss n fun d n' => qTru d fun b => if b = true then Q d n' else r ss n' Q
theorem l_and {rest : List Expr} (ha : PL X a ta pa) (hb : PL X (.BoolOp .And (b :: rest) pos) tb pb) : PL X (.BoolOp .And (a :: b :: rest) pos) (tAndT X.K ta tb) (dAndV pa pb) :=
  ⟨pe_andT ha.pe hb.pe, fun g H0 σ H ss n w Q Q1 k hp q => ha.lf g H0 σ H ss n w _ _ k hp fun d n' v H' h1 e1 k1 r1 => by
    obtain ⟨b, h2, h3⟩ := tru_of (K := X.K) hw_sub r1 h1
    refine ⟨b, h2, ?_⟩
    cases b with
    | true =>
      rw [if_pos rfl] at h3 ⊢
      exact hb.lf g H0 σ H' ss n' w _ _ k1 h3 fun d n2 v H2 h2 e2 k2 r2 => q _ _ _ _ h2 (e1.trans e2) k2 r2
    | false =>
      rw [if_neg Bool.false_ne_true] at h3 ⊢
      exact q _ _ _ _ h3 e1 k1 r1⟩
theorem l_or {rest : List Expr} (ha : PL X a ta pa) (hb : PL X (.BoolOp .Or (b :: rest) pos) tb pb) : PL X (.BoolOp .Or (a :: b :: rest) pos) (tOrT X.K ta tb) (dOrV pa pb) :=
  ⟨pe_orT ha.pe hb.pe, fun g H0 σ H ss n w Q Q1 k hp q => ha.lf g H0 σ H ss n w _ _ k hp fun d n' v H' h1 e1 k1 r1 => by
    obtain ⟨b, h2, h3⟩ := tru_of (K := X.K) hw_sub r1 h1
    refine ⟨b, h2, ?_⟩
    cases b with
    | true =>
      rw [if_pos rfl] at h3 ⊢
      exact q _ _ _ _ h3 e1 k1 r1
    | false =>
      rw [if_neg Bool.false_ne_true] at h3 ⊢
      exact hb.lf g H0 σ H' ss n' w _ _ k1 h3 fun d n2 v H2 h2 e2 k2 r2 => q _ _ _ _ h2 (e1.trans e2) k2 r2⟩
theorem l_one {op : BoolOp} (ha : PL X a ta pa) : PL X (.BoolOp op [a] pos) ta pa := ⟨pe_one ha.pe, ha.lf⟩
def dIf (pt : DT) (p r : DE) : DE := fun ss n Q => pt ss n fun b n' => if b = true then p ss n' Q else r ss n' Q
theorem l_if (hc : PLT X c tt pt) (ha : PL X a ta pa) (hb : PL X b tb pb) : PL X (.IfExp c a b pos) (tIf tt ta tb) (dIf pt pa pb) := ⟨pe_ifExp hc.pt ha.pe hb.pe, fun g H0 σ H ss n w Q Q1 k hp q => hc.lf g H0 σ H ss n w _ _ k hp fun b n' H' h1 e1 k1 => by
  cases b with
  | true =>
    rw [if_pos rfl] at h1 ⊢
    exact ha.lf g H0 σ H' ss n' w _ _ k1 h1 fun d n2 v H2 h2 e2 k2 r2 => q _ _ _ _ h2 (e1.trans e2) k2 r2
  | false =>
    rw [if_neg Bool.false_ne_true] at h1 ⊢
    exact hb.lf g H0 σ H' ss n' w _ _ k1 h1 fun d n2 v H2 h2 e2 k2 r2 => q _ _ _ _ h2 (e1.trans e2) k2 r2⟩

/-! ### arguments, displays -/
abbrev DW := List S → Nat → (W → Nat → Prop) → Prop
def LfW (t : TE) (p : DW) : Prop := ∀ (g : Gd) (H0 : Hp) (σ : L2.St) (H : Hp) (ss : List S) (n : Nat) (w : Addr → Option Nat) (Q : VK) (Q1 : W → Nat → Prop), Ok g H0 σ H ss n w → p ss n Q1 →
  (∀ d n' v H', Q1 d n' → Ed g.dk H H' → Ok g H0 σ H' ss n' w → WOk g H' v d → Q v H') → t σ H Q
structure PLG (X : Cx) (e : Expr) (t : TE) (p : DW) : Prop where
  pe : PE X e t
  lf : LfW t p
def dArg (p : DE) : DW := fun ss n Q => p ss n fun d n' => Q (.d d) n'
theorem g_ (h : PL X a ta pa) : PLG X a ta (dArg pa) := ⟨h.pe, fun g H0 σ H ss n w Q Q1 k hp q => h.lf g H0 σ H ss n w _ _ k hp fun d n' v H' h1 e1 k1 r1 => q _ _ _ _ h1 e1 k1 r1⟩
def dArgV (i : Nat) : DW := fun ss n Q => match ss[i]? with | some (.d x) => Q (.d x) n | some (.own xs) => Q (.d (.list xs)) n | some .dk => Q .dk n | _ => False
theorem gv (i : Nat) {x : Str} (hN : X.N[i]? = some x := by rfl) (hv : Vis X.env.scope x := by first | exact Or.inl rfl | exact Or.inr (Or.inl rfl) | exact Or.inr (Or.inr rfl)) (hd : (x == ("__debug__" : Str)) = false := by decide)
    (hcd : (x == ("__classdict__" : Str)) = false := by decide) : PLG X (.Name x pos) (tVar i) (dArgV i) := ⟨pe_var hN hv hd hcd, fun g H0 σ H ss n w Q Q1 k h q => by
  unfold dArgV at h
  split at h
  · rename_i x e
    obtain ⟨v, h1, h2⟩ := k.var e
    exact ⟨v, h1, q _ _ _ _ h (Ed.refl _ _) k (h2.same (hw_h0 k.ext))⟩
  · rename_i xs e
    obtain ⟨v, h1, h2⟩ := k.varL e
    exact ⟨v, h1, q _ _ _ _ h (Ed.refl _ _) k h2⟩
  · rename_i e
    exact ⟨_, k.sl i _ e, q _ _ _ _ h (Ed.refl _ _) k rfl⟩
  · exact h.elim⟩
def dNil : DA := fun _ n Q => Q [] n
def dCons (p : DW) (r : DA) : DA := fun ss n Q => p ss n fun a n' => r ss n' fun as n2 => Q (a :: as) n2
theorem a_nil : PLA X [] tNil dNil := ⟨pa_nil, fun g H0 σ H ss n w Q Q1 k h q => q _ _ _ _ h (Ed.refl _ _) k .nil⟩
theorem a_cons {pw : DW} (ha : PLG X e t pw) (hr : PLA X es tA pA) (hs : starEach (e :: es) X.env = (false, eval e X.env) :: starEach es X.env := by rfl) : PLA X (e :: es) (tCons t tA) (dCons pw pA) :=
  ⟨pa_cons ha.pe hr.pa hs, fun g H0 σ H ss n w Q Q1 k h q => ha.lf g H0 σ H ss n w _ _ k h fun d n' v H' h1 e1 k1 r1 => hr.lf g H0 σ H' ss n' w _ _ k1 h1 fun as n2 vs H2 h2 e2 k2 r2 => q _ _ _ _ h2 (e1.trans e2) k2 (.cons (r1.ed e2) r2)⟩
def datas : List W → Option (List PyData)
  | [] => some []
  | .d x :: r => match datas r with
    | some ds => some (x :: ds)
    | none => none
  | .dk :: _ => none
theorem datas_ok {g : Gd} {H : Hp} : ∀ {vs : List V} {as : List W} {ds : List PyData}, WsOk g H vs as → datas as = some ds → DqA (hw g.h H) vs ds
  | _, _, _, .nil, e => by cases e; exact .nil
  | _, _, _, .cons (a := .d x) h q, e => by
    unfold datas at e
    split at e
    · rename_i ds' e'
      cases e
      exact .cons h (datas_ok q e')
    · cases e
  | _, _, _, .cons (a := .dk) h q, e => by cases e
/-- the arguments as data -/
def onD (as : List W) (P : List PyData → Prop) : Prop := match datas as with
  | some ds => P ds
  | none => False
theorem onD_some {as : List W} {P : List PyData → Prop} (h : onD as P) : ∃ ds, datas as = some ds ∧ P ds := by
  unfold onD at h
  split at h
  · exact ⟨_, by assumption, h⟩
  · exact h.elim
def dTup (p : DA) : DE := fun ss n Q => p ss n fun as n' => onD as fun ds => ds.length ≤ sizeLine ∧ Q (.tuple ds) n'
def dLst (p : DA) : DE := fun ss n Q => p ss n fun as n' => onD as fun ds => ds.length ≤ sizeLine ∧ Q (.list ds) n'
theorem l_tup {k : Nat} (h : PLA X es tA pA) : PL X (.Tuple es k pos) (tTup tA) (dTup pA) := ⟨pe_tup h.pa, fun g H0 σ H ss n w Q Q1 k hp q => h.lf g H0 σ H ss n w _ _ k hp fun as n' vs H' h1 e1 k1 r1 => by
  obtain ⟨ds, e, h2, h3⟩ := onD_some h1
  have r := datas_ok r1 e
  refine ⟨by rw [r.len]; exact h2, fun p hp => ?_⟩
  obtain ⟨g1, g2⟩ := new_tup k1.hd r hp
  exact q _ _ _ _ h3 (e1.trans (Ed.of g1)) (k1.same g1) g2⟩
theorem l_lst (h : PLA X es tA pA) : PL X (.List es pos) (tLst tA) (dLst pA) := ⟨pe_lst h.pa, fun g H0 σ H ss n w Q Q1 k hp q => h.lf g H0 σ H ss n w _ _ k hp fun as n' vs H' h1 e1 k1 r1 => by
  obtain ⟨ds, e, h2, h3⟩ := onD_some h1
  have r := datas_ok r1 e
  refine ⟨by rw [r.len]; exact h2, fun p hp => ?_⟩
  obtain ⟨g1, g2⟩ := new_lst k1.hd r hp
  exact q _ _ _ _ h3 (e1.trans (Ed.of g1)) (k1.same g1) g2⟩

/-! ### subscripts, slices -/
def qIx : PyData → PyData → DP := fun d e Q => match d, e with
  | .list xs, .int i => ∃ x, atI xs i = some x ∧ Q x
  | .tuple xs, .int i => ∃ x, atI xs i = some x ∧ Q x
  | .str z, .int i => z.length ≤ sizeLine ∧ ∃ c, atI z.cps.toList i = some c ∧ Q (.str ⟨#[c]⟩)
  | _, _ => False
theorem atI_of {H : Hp} {vs : List V} {ds : List PyData} {i : Int} {x : PyData} (h : DqA H vs ds) (e : atI ds i = some x) : ∃ v, atI vs i = some v ∧ Dq H v x := by
  unfold atI at e ⊢
  rw [h.len]
  cases q : ixN ds.length i with
  | none => rw [q] at e; cases e
  | some j =>
    rw [q] at e
    exact h.get (i := j) e
theorem lr_ix {K : PySem.W.Frag} : LR (rIx K) qIx := fun hh H x y d e Q Q1 hd hx hy h q => by
  cases hy with
  | int i =>
    cases hx with
    | @lst a vs ds ha hA =>
      obtain ⟨x, e, h⟩ := h
      obtain ⟨v, e', r⟩ := atI_of hA e
      exact .inl ⟨a, vs, i, v, rfl, rfl, SqL.of (hsub ha), e', q _ _ _ h (Same.refl H) r⟩
    | @tup a vs ds ha hA =>
      obtain ⟨x, e, h⟩ := h
      obtain ⟨v, e', r⟩ := atI_of hA e
      exact .inr (.inl ⟨a, vs, i, v, rfl, rfl, SqT.of (hsub ha), e', q _ _ _ h (Same.refl H) r⟩)
    | str z =>
      obtain ⟨hz, c, e, h⟩ := h
      exact .inr (.inr ⟨z, i, c, rfl, rfl, hz, e, q _ _ _ h (Same.refl H) (.str _)⟩)
    | _ => exact h.elim
  | _ => cases hx <;> exact h.elim
theorem l_ix (ha : PL X a ta pa) (hb : PL X b tb pb) (hs : PlainIx b := by intro _ _; rfl) : PL X (.Subscript a b pos) (tOp (rIx X.K) ta tb) (dOp qIx pa pb) := ⟨pe_ix ix_seq ha.pe hb.pe hs, lf_op lr_ix ha.lf hb.lf⟩

abbrev DO := List S → Nat → (Option Int → Nat → Prop) → Prop
def LfO (t : TO) (p : DO) : Prop := ∀ (g : Gd) (H0 : Hp) (σ : L2.St) (H : Hp) (ss : List S) (n : Nat) (w : Addr → Option Nat) (Q : Option Int → Hp → Prop) (Q1 : Option Int → Nat → Prop), Ok g H0 σ H ss n w → p ss n Q1 →
  (∀ d n' H', Q1 d n' → Ed g.dk H H' → Ok g H0 σ H' ss n' w → Q d H') → t σ H Q
structure PLO (X : Cx) (e : Option Expr) (t : TO) (p : DO) : Prop where
  po : PO X e t
  lf : LfO t p
def dNoPart : DO := fun _ n Q => Q none n
def dPart (p : DE) : DO := fun ss n Q => p ss n fun d n' => ∃ i, d = .int i ∧ Q (some i) n'
theorem o_none : PLO X none tNoPart dNoPart := ⟨po_none, fun g H0 σ H ss n w Q Q1 k h q => q _ _ _ h (Ed.refl _ _) k⟩
theorem o_some (ha : PL X a ta pa) : PLO X (some a) (tPart ta) (dPart pa) := ⟨po_some ha.pe, fun g H0 σ H ss n w Q Q1 k hp q => ha.lf g H0 σ H ss n w _ _ k hp fun d n' v H' h1 e1 k1 r1 => by
  obtain ⟨i, rfl, h2⟩ := h1
  cases r1
  exact ⟨i, rfl, q _ _ _ h2 e1 k1⟩⟩
/-- the items of xs[lo:hi] -/
def cut {α : Type} (xs : List α) (lo hi : Option Int) : List α := (xs.drop (HT.sIx xs.length 0 lo)).take (HT.sIx xs.length xs.length hi - HT.sIx xs.length 0 lo)
theorem cut_dq {H : Hp} {vs : List V} {ds : List PyData} (h : DqA H vs ds) (lo hi : Option Int) : DqA H (cutV vs lo hi) (cut ds lo hi) := by
  unfold cutV cut
  rw [h.len]
  exact (h.drop _).take _
theorem cut_whole {α : Type} {xs : List α} {lo hi : Option Int} (h : HT.sIx xs.length 0 lo = 0 ∧ HT.sIx xs.length xs.length hi = xs.length) : cut xs lo hi = xs := by
  unfold cut
  rw [h.1, h.2]
  simp
def qSl : PyData → Option Int → Option Int → DP := fun d lo hi Q => match d with
  | .list xs => Q (.list (cut xs lo hi))
  | .tuple xs => Q (.tuple (cut xs lo hi))
  | .str z => z.length ≤ sizeLine ∧ Q (.str (cutS z lo hi))
  | _ => False
def rSl' (K : PySem.W.Frag) : V → Option Int → Option Int → Hp → VK → Prop := fun x lo hi H Q => (rSlL K x lo hi H Q ∨ rSlA K x lo hi H Q) ∨ rSlS x lo hi H Q
def dSl (p : DE) (lo hi : DO) : DE := fun ss n Q => p ss n fun d n1 => lo ss n1 fun l n2 => hi ss n2 fun u n3 => qSl d l u fun f => Q f n3
theorem l_sl {lo hi : Option Expr} {tl th : TO} {pl ph : DO} {p2 : Pos} (ha : PL X a ta pa) (hl : PLO X lo tl pl) (hu : PLO X hi th ph) : PL X (.Subscript a (.Slice lo hi none p2) pos) (tSl (rSl' X.K) ta tl th) (dSl pa pl ph) :=
  ⟨pe_slice ((sl_list.or sl_tupA).or sl_str) ha.pe hl.po hu.po, fun g H0 σ H ss n w Q Q1 k hp q => ha.lf g H0 σ H ss n w _ _ k hp fun d n1 v H1 h1 e1 k1 r1 => hl.lf g H0 σ H1 ss n1 w _ _ k1 h1 fun l n2 H2 h2 e2 k2 => hu.lf g H0 σ H2 ss n2 w _ _ k2 h2 fun u n3 H3 h3 e3 k3 => by
    have r3 := r1.same (h0_ed (e2.trans e3))
    have e13 := (e1.trans e2).trans e3
    cases r3 with
    | @lst a vs ds ha hA =>
      refine .inl (.inl ⟨a, vs, rfl, SqL.of (hsub ha), fun p hp => ?_⟩)
      obtain ⟨g1, g2⟩ := new_lst k3.hd (cut_dq hA l u) hp
      exact q _ _ _ _ h3 (e13.trans (Ed.of g1)) (k3.same g1) g2
    | @tup a vs ds ha hA =>
      refine .inl (.inr ⟨a, vs, rfl, SqT.of (hsub ha), fun hw => ?_, fun _ p hp => ?_⟩)
      · rw [hA.len] at hw
        have h3 : Q1 (.tuple (cut ds l u)) n3 := h3
        rw [cut_whole hw] at h3
        exact q _ _ _ _ h3 e13 k3 (.tup ha hA)
      · obtain ⟨g1, g2⟩ := new_tup k3.hd (cut_dq hA l u) hp
        exact q _ _ _ _ h3 (e13.trans (Ed.of g1)) (k3.same g1) g2
    | str z => exact .inr ⟨z, rfl, h3.1, q _ _ _ _ h3.2 e13 k3 (.str _)⟩
    | _ => exact h3.elim⟩

/-! ### calls of built-ins -/
def dCall (q : List PyData → DP) (pA : DA) : DE := fun ss n Q => pA ss n fun as n' => onD as fun ds => q ds fun f => Q f n'
theorem lf_cb {r : List V → Hp → VK → Prop} {q : List PyData → DP} (hr : LC r q) (h : LfA tA pA) : Lf (tCB r tA) (dCall q pA) := fun g H0 σ H ss n w Q Q1 k hp hq => h g H0 σ H ss n w _ _ k hp fun as n' vs H' h1 e1 k1 r1 => by
  obtain ⟨ds, e, h2⟩ := onD_some h1
  exact hr g.h H' vs ds Q _ k1.hd (datas_ok r1 e) h2 fun z H2 f h3 e3 r3 => hq _ _ _ _ h3 (e1.trans (Ed.of e3)) (k1.same e3) r3
structure CB (X : Cx) (f : Value) (r : List V → Hp → VK → Prop) (q : List PyData → DP) : Prop where
  op : CallR X f r
  lc : LC r q
theorem l_callB {id : String} {x : Str} {p0 : Pos} {r : List V → Hp → VK → Prop} {q : List PyData → DP} (hc : CB X (.builtin id) r q) (hg : Gl X x) (hm : X.mg x = none) (hv : bootBuiltins x = some (.builtin id)) (ha : PLA X (e :: es) tA pA) (hn : x ≠ "__name__" := by decide)
    (hdb : (x == ("__debug__" : Str)) = false := by decide) (he : starEach (e :: es) X.env = (false, eval e X.env) :: starEach es X.env := by rfl) (hpl : (backTo pos (starEach es X.env)).any (·.1) = false := by rfl) :
    PL X (.Call (.Name x p0) (e :: es) [] pos) (tCB r tA) (dCall q pA) := ⟨pe_callB hc.op hg hm hv ha.pa hn hdb he hpl, lf_cb hc.lc ha.lf⟩
theorem l_callT {T : String} {x : Str} {p0 : Pos} {r : List V → Hp → VK → Prop} {q : List PyData → DP} (hc : CB X (.type T) r q) (hg : Gl X x) (hm : X.mg x = none) (hv : bootBuiltins x = some (.type T)) (ha : PLA X (e :: es) tA pA) (hn : x ≠ "__name__" := by decide)
    (hdb : (x == ("__debug__" : Str)) = false := by decide) (he : starEach (e :: es) X.env = (false, eval e X.env) :: starEach es X.env := by rfl) (hpl : (backTo pos (starEach es X.env)).any (·.1) = false := by rfl) :
    PL X (.Call (.Name x p0) (e :: es) [] pos) (tCB r tA) (dCall q pA) := ⟨pe_callTy hc.op hg hm hv ha.pa hn hdb he hpl, lf_cb hc.lc ha.lf⟩
def qLen : List PyData → DP := fun ds Q => match ds with
  | [.list xs] => Q (.int xs.length)
  | [.tuple xs] => Q (.int xs.length)
  | [.str z] => z.length ≤ sizeLine ∧ Q (.int z.length)
  | _ => False
theorem b_len : CB X (.builtin "len") (fun xs H Q => ∃ x n, xs = [x] ∧ LenV X.K x H n ∧ Q (V.int n) H) qLen := ⟨call_len, fun hh H xs ds Q Q1 hd h hq q => by
  cases h with
  | nil => exact hq.elim
  | cons h r =>
    cases r with
    | cons _ _ => cases h <;> exact hq.elim
    | nil =>
      cases h with
      | @lst a vs ds ha hA => exact ⟨_, ds.length, rfl, .inl ⟨vs, SqL.of (hsub ha), hA.len.symm⟩, q _ _ _ hq (Same.refl H) (.int _)⟩
      | @tup a vs ds ha hA => exact ⟨_, ds.length, rfl, .inr ⟨vs, SqT.of (hsub ha), hA.len.symm⟩, q _ _ _ hq (Same.refl H) (.int _)⟩
      | str z => exact ⟨_, z.length, rfl, ⟨hq.1, rfl⟩, q _ _ _ hq.2 (Same.refl H) (.int _)⟩
      | _ => exact hq.elim⟩
theorem ints_of {H : Hp} : ∀ {vs : List V} {ns : List Int}, DqA H vs (ns.map PyData.int) → vs = ns.map V.int
  | _, [], h => by cases h; rfl
  | _, n :: r, h => by
    cases h with
    | cons a b =>
      cases a
      rw [ints_of b]
      rfl
def qSum : List PyData → DP := fun ds Q => match ds with
  | [.list xs] => ∃ ns : List Int, xs = ns.map PyData.int ∧ Q (.int ns.sum)
  | _ => False
theorem b_sum (hc : X.calm = true) : CB X (.builtin "sum") (rSum X.K) qSum := ⟨cr_sum hc, fun hh H xs ds Q Q1 hd h hq q => by
  cases h with
  | nil => exact hq.elim
  | cons h r =>
    cases r with
    | cons _ _ => cases h <;> exact hq.elim
    | nil =>
      cases h with
      | @lst a vs ds ha hA =>
        obtain ⟨ns, rfl, hq⟩ := hq
        exact ⟨a, ns, rfl, by rw [← ints_of hA]; exact SqL.of (hsub ha), q _ _ _ hq (Same.refl H) (.int _)⟩
      | _ => exact hq.elim⟩
def qIntOf : List PyData → DP := fun ds Q => match ds with
  | [.int i] => Q (.int i)
  | [.bool b] => Q (.int (if b = true then 1 else 0))
  | _ => False
theorem b_int : CB X (.type "int") (fun xs H Q => (∃ i, xs = [V.int i] ∧ Q (V.int i) H) ∨ ∃ k, xs = [V.bl k] ∧ Q (V.int (if k = true then 1 else 0)) H) qIntOf := ⟨call_int1, fun hh H xs ds Q Q1 hd h hq q => by
  cases h with
  | nil => exact hq.elim
  | cons h r =>
    cases r with
    | cons _ _ => cases h <;> exact hq.elim
    | nil =>
      cases h with
      | int i => exact .inl ⟨i, rfl, q _ _ _ hq (Same.refl H) (.int _)⟩
      | bl b => exact .inr ⟨b, rfl, q _ _ _ hq (Same.refl H) (.int _)⟩
      | _ => exact hq.elim⟩
def qMin : List PyData → DP := fun ds Q => match ds with
  | [.int i, .int j] => Q (.int (if j < i then j else i))
  | _ => False
theorem b_min (hc : X.calm = true) : CB X (.builtin "min") (fun xs H Q => ∃ i j, xs = [V.int i, V.int j] ∧ Q (V.int (if j < i then j else i)) H) qMin := ⟨call_min2 hc, fun hh H xs ds Q Q1 hd h hq q => by
  cases h with
  | nil => exact hq.elim
  | cons h r =>
    cases r with
    | nil => cases h <;> exact hq.elim
    | cons h' r =>
      cases r with
      | cons _ _ => cases h <;> cases h' <;> exact hq.elim
      | nil =>
        cases h with
        | int i =>
          cases h' with
          | int j => exact ⟨i, j, rfl, q _ _ _ hq (Same.refl H) (.int _)⟩
          | _ => exact hq.elim
        | _ => cases h' <;> exact hq.elim⟩
def qTupOf : List PyData → DP := fun ds Q => match ds with
  | [.list xs] => Q (.tuple xs)
  | [.tuple xs] => Q (.tuple xs)
  | _ => False
theorem b_tuple : CB X (.type "tuple") (fun xs H Q => ∃ p ys, xs = [V.ref p] ∧ ((SqL X.K H p ys ∧ ∀ (l : Addr), H l = none → Q (V.ref l) (upd H l (HO.tup ys))) ∨ SqT X.K H p ys ∧ Q (V.ref p) H)) qTupOf := ⟨call_tuple_of, fun hh H xs ds Q Q1 hd h hq q => by
  cases h with
  | nil => exact hq.elim
  | cons h r =>
    cases r with
    | cons _ _ => cases h <;> exact hq.elim
    | nil =>
      cases h with
      | @lst a vs ds ha hA =>
        refine ⟨a, vs, rfl, .inl ⟨SqL.of (hsub ha), fun l hl => ?_⟩⟩
        obtain ⟨g1, g2⟩ := new_tup hd hA hl
        exact q _ _ _ hq g1 g2
      | @tup a vs ds ha hA => exact ⟨a, vs, rfl, .inr ⟨SqT.of (hsub ha), q _ _ _ hq (Same.refl H) (.tup ha hA)⟩⟩
      | _ => exact hq.elim⟩
def qLstOf : List PyData → DP := fun ds Q => match ds with
  | [.list xs] => Q (.list xs)
  | [.tuple xs] => Q (.list xs)
  | _ => False
theorem b_list : CB X (.type "list") (fun xs H Q => ∃ p ys, xs = [V.ref p] ∧ (SqL X.K H p ys ∨ SqT X.K H p ys) ∧ ∀ (l : Addr), H l = none → Q (V.ref l) (upd H l (HO.lst ys))) qLstOf := ⟨call_list_of, fun hh H xs ds Q Q1 hd h hq q => by
  cases h with
  | nil => exact hq.elim
  | cons h r =>
    cases r with
    | cons _ _ => cases h <;> exact hq.elim
    | nil =>
      cases h with
      | @lst a vs ds ha hA =>
        refine ⟨a, vs, rfl, .inl (SqL.of (hsub ha)), fun l hl => ?_⟩
        obtain ⟨g1, g2⟩ := new_lst hd hA hl
        exact q _ _ _ hq g1 g2
      | @tup a vs ds ha hA =>
        refine ⟨a, vs, rfl, .inr (SqT.of (hsub ha)), fun l hl => ?_⟩
        obtain ⟨g1, g2⟩ := new_lst hd hA hl
        exact q _ _ _ hq g1 g2
      | _ => exact hq.elim⟩
/-! methods of texts -/
def tM1' (r : V → List V → Hp → VK → Prop) (to te : TE) : TE := tM1 r to te
def qJoin : PyData → PyData → DP := fun d e Q => match d, e with
  | .str z, .list xs => ∃ ys : List Str, xs = ys.map PyData.str ∧ (ys.map (·.length)).sum + ys.length * z.length ≤ 16777216 ∧ Q (.str (Txt.join z ys))
  | _, _ => False
def qCount : PyData → PyData → DP := fun d e Q => match d, e with
  | .str x, .str y => Q (.int (Txt.count x y))
  | _, _ => False
theorem strs_of {H : Hp} : ∀ {vs : List V} {ns : List Str}, DqA H vs (ns.map PyData.str) → vs = ns.map V.str
  | _, [], h => by cases h; rfl
  | _, n :: r, h => by
    cases h with
    | cons a b =>
      cases a
      rw [strs_of b]
      rfl
/-- o.m(e), o a text -/
def dM1 (q : PyData → PyData → DP) (pa pb : DE) : DE := fun ss n Q => pa ss n fun d n1 => pb ss n1 fun e n2 => (∃ z, d = .str z) ∧ q d e fun f => Q f n2
theorem lf_m1 {r : V → List V → Hp → VK → Prop} {q : PyData → PyData → DP} (hr : LR (fun x y H Q => r x [y] H Q) q) (hs : ∀ ss n Q, pa ss n Q → pa ss n fun d n1 => (∃ z, d = .str z) ∧ Q d n1) (ha : Lf ta pa) (hb : Lf tb pb) : Lf (tM1 r ta tb) (dM1 q pa pb) :=
  fun g H0 σ H ss n w Q Q1 k h hq => ha g H0 σ H ss n w _ _ k (hs _ _ _ h) fun d n1 v H1 ⟨⟨z, ez⟩, h1⟩ e1 k1 r1 => by
    subst ez
    cases r1
    refine ⟨⟨z, rfl⟩, hb g H0 σ H1 ss n1 w _ _ k1 h1 fun e n2 u H2 h2 e2 k2 r2 => ?_⟩
    exact hr g.h H2 (.str z) u (.str z) e Q _ k2.hd (.str z) r2 h2.2 fun z H3 f h3 e3 r3 => hq f n2 z H3 h3 ((e1.trans e2).trans (Ed.of e3)) (k2.same e3) r3
end
end Ev

namespace Ev
open PySem PySem.Spec PyProof.Rows L2
/-! ### a def's promise, nothing being printed around it -/
structure FnG (P : Program) (w : World) (K : PySem.W.Frag) (mg : Str → Option Value) (base : Heap) (CX : CXT) (k : Nat) (f : Addr) (fd : FuncData) (ps : List Str) (sp : Sp) : Prop where
  len : ∀ vs H Q E, sp vs H Q E → vs.length = ps.length
  run : ∀ (A : Around) (outer : List Env) (s : Shared) (H : Hp) (args : Args) (us : List Value) (vs : List V) (Q : VK) (E : XK), Room k A → A.guards = some [] → Env0 P w K mg base A outer s H →
    BindsTo s fd args (ps.zip us) → Vals vs us → sp vs H Q E → codeAny (model P w) A (.call (.ref f) args) (CR CX outer P w H s Q E) s
section
variable {P : Program} {w : World} {K : PySem.W.Frag} {mg : Str → Option Value} {base : Heap} {CX : CXT} {j k : Nat} {f : Addr} {fd : FuncData} {ps : List Str} {sp sp' : Sp}
theorem FnG.mono (F : FnG P w K mg base CX j f fd ps sp) (h : j ≤ k) : FnG P w K mg base CX k f fd ps sp := ⟨F.len, fun A o s H as us vs Q E hr => F.run A o s H as us vs Q E (hr.mono h)⟩
theorem FnG.imp (F : FnG P w K mg base CX k f fd ps sp) (h : ∀ vs H Q E, sp' vs H Q E → sp vs H Q E) : FnG P w K mg base CX k f fd ps sp' :=
  ⟨fun vs H Q E q => F.len vs H Q E (h _ _ _ _ q), fun A o s H as us vs Q E hr hg he hb hv hs => F.run A o s H as us vs Q E hr hg he hb hv (h _ _ _ _ hs)⟩
/-- a def of the text, from its body -/
theorem fnG_of {N : List Str} {x qual : Str} {st : Stmt} (F : Fun K x qual st f fd) (S : FnScope N ps (defScope st)) (len : ∀ vs H Q E, sp vs H Q E → vs.length = ps.length)
    (body : ∀ (cdv : Value) (A : Around) (o : List Env) (s : Shared) (H : Hp) (vs : List V) (Q : VK) (E : XK), Room k (A.deeper (envOfC qual (defScope st) s.heap.objs.size f cdv)) → A.guards = some [] → sp vs H Q E →
      ∃ t, PSs (cxOf CX P w K mg base N qual (defScope st) f cdv A o s H E) (defBody st) t ∧ t { nx := fun _ H' => Q .non H', rt := Q } (start N vs) H) : FnG P w K mg base CX (k + 1) f fd ps sp := by
  obtain ⟨oc, od, kV, dcV, pm, an, cdv, ct, osl, hfd, lk, hcd⟩ := F.ex
  subst hfd
  refine ⟨len, fun A o s H args us vs Q E hr hg e0 hb r hsp => ?_⟩
  have KX := e0.mod.kin.keeps fun b ob e => (e0.bs b ob e).1
  have nl := e0.mod.nolimit.keeps fun b ob e => (e0.bs b ob e).1
  have kinds : ∀ y ∈ ps.zip us, (defScope st).names.lookup y.1 = some .local ∨ ((defScope st).names.lookup y.1 = some .cell ∧ ((cellsFrom (s.heap.objs.size + 1) (defScope st).names []).lookup y.1).isSome = true) := by
    rintro ⟨n, v⟩ hy
    exact (S.par n (List.of_mem_zip hy).1).imp id fun q => ⟨q, PySem.W.cellsFrom_some _ _ _ (.inl q)⟩
  refine codeAny_call_function hr.depth (KX _ _ lk) rfl S.co S.gen rfl (PySem.W.codeRec_of KX hcd) (hb _ _ _ _ (wpAny_newFunctionEnv_cells S.kind kinds fun env he s1 x => ?_))
  subst he
  obtain ⟨t, ht, hq⟩ := body cdv A o s H vs Q E (hr.deeper _) hg hsp
  refine ⟨nl.keeps x.toInCall.keep, codeAny_func (wpAny_mono (ht.run [] s1 (start N vs) H _ (inv_start S hr.hd e0 (len _ _ _ _ hsp) r x) hq) (fun fl s' hs => ?_) fun _ _ z => z)⟩
  cases fl with
  | ret u =>
    obtain ⟨v, σ', H', J, rv, q⟩ := hs
    exact ⟨v, H', J.os, J.bare, J.base, J.hok, rv, q⟩
  | next =>
    obtain ⟨σ', H', J, q⟩ := hs
    exact ⟨V.non, H', J.os, J.bare, J.base, J.hok, rfl, q⟩
  | brk =>
    obtain ⟨_, _, _, q⟩ := hs
    exact q.elim
  | cont =>
    obtain ⟨_, _, _, q⟩ := hs
    exact q.elim
end
section
variable {X : Cx} {CX : CXT} {k : Nat} {f : Addr} {fd : FuncData} {ps : List Str} {sp : Sp} {E : XK} {x : Str} {p pos : Pos} {e : Expr} {es : List Expr} {t : TA}
theorem callG {pins : List (Addr × Obj)} {σ : L2.St} {H : Hp} {s : Shared} {Q : VK} {us : List Value} {vs : List V} (F : FnG X.prog X.w X.K X.mg X.base CX k f fd ps sp) (hr : Room k X.A) (hg : X.A.guards = some []) (hb : Binds X.K fd ps []) (hx : Passes CX X E)
    (I : Inv X pins σ H s) (r : Vals vs us) (h : sp vs H Q E) : wpAny (model X.prog X.w) X.A (call (.ref f) us) (EP X pins σ Q) X.xe s := by
  have hl : (us ++ []).length = ps.length := by rw [List.append_nil, ← r.length]; exact F.len _ _ _ _ h
  have b := hb s us I.kIn hl
  rw [List.append_nil] at b
  refine wpAny_call (codeAny_mono (F.run X.A X.stack s H ⟨us, []⟩ us vs Q E hr hg I.env0 b r h) fun q s' hq => ?_)
  match q, hq with
  | .error e, hq => exact hx pins σ H s e s' I hq
  | .ok (.ret u), hq => exact I.after hq
  | .ok .next, hq => exact False.elim hq
  | .ok .brk, hq => exact False.elim hq
  | .ok .cont, hq => exact False.elim hq
/-- f(e, ..): a def of the module -/
def tCallG (sp : Sp) (E : XK) (t : TA) : TE := fun σ H Q => t σ H fun vs H1 => sp vs H1 Q E
theorem pe_callG (F : FnG X.prog X.w X.K X.mg X.base CX k f fd ps sp) (hr : Room k X.A) (hgd : X.A.guards = some []) (hg : Gl X x) (hm : X.mg x = some (.ref f)) (hk : PySem.W.keepIn X.K (.ref f) = true) (hb : Binds X.K fd ps []) (hx : Passes CX X E)
    (ha : PA X (e :: es) t) (hdb : (x == ("__debug__" : Str)) = false := by decide) (he : starEach (e :: es) X.env = (false, eval e X.env) :: starEach es X.env := by rfl) (hpl : (backTo pos (starEach es X.env)).any (·.1) = false := by rfl) :
    PE X (.Call (.Name x p) (e :: es) [] pos) (tCallG sp E t) :=
  ⟨fun pins s σ H Q I h => wpAny_Call_Name_kw (ld_glob I hg hm (PySem.W.callWith_K (h₀ := X.base) I.ok.mod.kin hk (thn (ha.run pos pins s σ H _ I h) fun us s1 ⟨vs, H1, I1, r, q⟩ => ⟨I1.kIn, callG F hr hgd hb hx I1 r q⟩) he hpl) hdb)⟩
end

/-! ### promises told of data -/
abbrev DF := List W → Nat → DQ → Prop
/-- what is given back, from the call's heap -/
def Back (g : Gd) (H : Hp) (Q1 : DQ) (Q : VK) : Prop := ∀ d n' v H', Q1 d n' → Ed g.dk H H' → Deck g n' H' → Dq (hw g.h H') v d → Q v H'
def spD (F : DF) : Sp := fun vs H Q _ => ∃ (g : Gd) (n : Nat) (as : List W) (Q1 : DQ), (Deck g n H ∧ Hid g.h H) ∧ WsOk g H vs as ∧ F as n Q1 ∧ Back g H Q1 Q
/-- a new list back -/
abbrev DLQ := List PyData → Nat → Prop
def BackL (g : Gd) (H : Hp) (Q1 : DLQ) (Q : VK) : Prop := ∀ xs n' a vs H', Q1 xs n' → Ed g.dk H H' → Deck g n' H' → H a = none → H' a = some (.lst vs) → DqA (hw g.h H') vs xs → Q (.ref a) H'
abbrev DFL := List W → Nat → DLQ → Prop
def spL (F : DFL) : Sp := fun vs H Q _ => ∃ (g : Gd) (n : Nat) (as : List W) (Q1 : DLQ), (Deck g n H ∧ Hid g.h H) ∧ WsOk g H vs as ∧ F as n Q1 ∧ BackL g H Q1 Q

/-- an expression that gives a new list -/
def LfL (t : TE) (p : List S → Nat → DLQ → Prop) : Prop := ∀ (g : Gd) (H0 : Hp) (σ : L2.St) (H : Hp) (ss : List S) (n : Nat) (w : Addr → Option Nat) (Q : VK) (Q1 : DLQ), Ok g H0 σ H ss n w → p ss n Q1 →
  (∀ xs n' a vs H', Q1 xs n' → Ed g.dk H H' → Ok g H0 σ H' ss n' w → H a = none → H' a = some (.lst vs) → DqA (hw g.h H') vs xs → Q (.ref a) H') → t σ H Q
abbrev DL := List S → Nat → DLQ → Prop
structure PLL (X : Cx) (e : Expr) (t : TE) (p : DL) : Prop where
  pe : PE X e t
  lf : LfL t p
theorem free_of {dk : Addr} {H H' : Hp} (e : Ed dk H H') (hd : H' dk ≠ none) {a : Addr} (h : H' a = none) : H a = none := by
  cases q : H a with
  | none => rfl
  | some o =>
    by_cases z : a = dk
    · subst z
      exact absurd h hd
    · rw [e a o z q] at h
      cases h
section
variable {X : Cx} {e a b c : Expr} {es : List Expr} {t ta tb tc : TE} {tt tu : TT} {tA : TA} {p pa pb pc : DE} {pt pu : DT} {pA : DA} {pos apos : Pos} {k : Nat} {f : Addr} {fd : FuncData} {ps : List Str} {x : Str} {p0 : Pos}
def dFn (F : DF) (pA : DA) : DE := fun ss n Q => pA ss n fun as n' => F as n' Q
theorem l_fn {F : DF} (G : FnG X.prog X.w X.K X.mg X.base CX0 k f fd ps (spD F)) (hr : Room k X.A) (hgd : X.A.guards = some []) (hg : Gl X x) (hm : X.mg x = some (.ref f)) (hk : PySem.W.keepIn X.K (.ref f) = true) (hb : Binds X.K fd ps [])
    (ha : PLA X (e :: es) tA pA) (hdb : (x == ("__debug__" : Str)) = false := by decide) (he : starEach (e :: es) X.env = (false, eval e X.env) :: starEach es X.env := by rfl) (hpl : (backTo pos (starEach es X.env)).any (·.1) = false := by rfl) :
    PL X (.Call (.Name x p0) (e :: es) [] pos) (tCallG (spD F) E0 tA) (dFn F pA) := ⟨pe_callG G hr hgd hg hm hk hb pass0 ha.pa hdb he hpl, fun g H0 σ H ss n w Q Q1 k hp q => ha.lf g H0 σ H ss n w _ _ k hp fun as n' vs H1 h1 e1 k1 r1 =>
  ⟨g, n', as, Q1, ⟨k1.deck, k1.hd⟩, r1, h1, fun d n2 v H2 h2 e2 d2 r2 => q d n2 v H2 h2 (e1.trans e2) (k1.step e2 d2) r2⟩⟩
def dFnL (F : DFL) (pA : DA) : DL := fun ss n Q => pA ss n fun as n' => F as n' Q
theorem f_fn {F : DFL} (G : FnG X.prog X.w X.K X.mg X.base CX0 k f fd ps (spL F)) (hr : Room k X.A) (hgd : X.A.guards = some []) (hg : Gl X x) (hm : X.mg x = some (.ref f)) (hk : PySem.W.keepIn X.K (.ref f) = true) (hb : Binds X.K fd ps [])
    (ha : PLA X (e :: es) tA pA) (hdb : (x == ("__debug__" : Str)) = false := by decide) (he : starEach (e :: es) X.env = (false, eval e X.env) :: starEach es X.env := by rfl) (hpl : (backTo pos (starEach es X.env)).any (·.1) = false := by rfl) :
    PLL X (.Call (.Name x p0) (e :: es) [] pos) (tCallG (spL F) E0 tA) (dFnL F pA) := ⟨pe_callG G hr hgd hg hm hk hb pass0 ha.pa hdb he hpl, fun g H0 σ H ss n w Q Q1 k hp q => ha.lf g H0 σ H ss n w _ _ k hp fun as n' vs H1 h1 e1 k1 r1 =>
  ⟨g, n', as, Q1, ⟨k1.deck, k1.hd⟩, r1, h1, fun xs n2 a us H2 h2 e2 d2 fa h r2 => q xs n2 a us H2 h2 (e1.trans e2) (k1.step e2 d2) (free_of e1 (ne_dk k1.deck) fa) h r2⟩⟩
/-- a new list as any value -/
def dOfL (p : DL) : DE := fun ss n Q => p ss n fun xs n' => Q (.list xs) n'
theorem ne_free {g : Gd} {n : Nat} {H : Hp} (d : Deck g n H) {a : Addr} (h : H a = none) : a ≠ g.dk := fun z => ne_dk d (by rw [← z]; exact h)
theorem l_L {pl : DL} (h : PLL X e t pl) : PL X e t (dOfL pl) := ⟨h.pe, fun g H0 σ H ss n w Q Q1 k hp q => h.lf g H0 σ H ss n w _ _ k hp fun xs n' a vs H' h1 e1 k1 f1 g1 r1 =>
  q _ _ _ _ h1 e1 k1 (.lst (hw_some.mpr ⟨k.hd.none f1, g1⟩) r1)⟩
def dLstL (p : DA) : DL := fun ss n Q => p ss n fun as n' => onD as fun ds => ds.length ≤ sizeLine ∧ Q ds n'
theorem f_lst (h : PLA X es tA pA) : PLL X (.List es pos) (tLst tA) (dLstL pA) := ⟨pe_lst h.pa, fun g H0 σ H ss n w Q Q1 k hp q => h.lf g H0 σ H ss n w _ _ k hp fun as n' vs H' h1 e1 k1 r1 => by
  obtain ⟨ds, e, h2, h3⟩ := onD_some h1
  have r := datas_ok r1 e
  refine ⟨by rw [r.len]; exact h2, fun p hp => ?_⟩
  have g1 := same_new (.lst vs) hp
  exact q _ _ _ _ _ h3 (e1.trans (Ed.of g1)) (k1.same g1) (free_of e1 (ne_dk k1.deck) hp) upd_same (r.same (hw_same g1))⟩
/-- xs + ys -/
def dAddL (pa pb : DE) : DL := fun ss n Q => pa ss n fun d n1 => pb ss n1 fun e n2 => ∃ xs ys, d = .list xs ∧ e = .list ys ∧ xs.length + ys.length ≤ sizeLine ∧ Q (xs ++ ys) n2
theorem f_add (ha : PL X a ta pa) (hb : PL X b tb pb) : PLL X (.BinOp a .Add b pos) (tOp rCat ta tb) (dAddL pa pb) := ⟨pe_op op_cat ha.pe hb.pe, fun g H0 σ H ss n w Q Q1 k h q =>
  ha.lf g H0 σ H ss n w _ _ k h fun d n1 v H1 h1 e1 k1 r1 => hb.lf g H0 σ H1 ss n1 w _ _ k1 h1 fun e n2 u H2 h2 e2 k2 r2 => by
    obtain ⟨xs, ys, rfl, rfl, h3, h4⟩ := h2
    have r1 := r1.same (h0_ed e2)
    cases r1 with
    | @lst a vs ds ha hA =>
      cases r2 with
      | @lst b us es hb hB =>
        refine ⟨a, b, vs, us, rfl, rfl, hsub ha, hsub hb, by rw [hA.len, hB.len]; exact h3, fun p hp => ?_⟩
        have g1 := same_new (.lst (vs ++ us)) hp
        exact q _ _ _ _ _ h4 ((e1.trans e2).trans (Ed.of g1)) (k2.same g1) (free_of (e1.trans e2) (ne_dk k2.deck) hp) upd_same ((hA.app hB).same (hw_same g1))⟩
/-- xs * k -/
def dMulL (pa pb : DE) : DL := fun ss n Q => pa ss n fun d n1 => pb ss n1 fun e n2 => ∃ xs k, d = .list xs ∧ e = .int k ∧ -(2 ^ 63) ≤ k ∧ k < 2 ^ 63 ∧ xs.length * k.toNat ≤ sizeLine ∧ Q (List.replicate k.toNat xs).flatten n2
theorem f_mul (ha : PL X a ta pa) (hb : PL X b tb pb) : PLL X (.BinOp a .Mult b pos) (tOp rRep ta tb) (dMulL pa pb) := ⟨pe_op op_rep ha.pe hb.pe, fun g H0 σ H ss n w Q Q1 k h q =>
  ha.lf g H0 σ H ss n w _ _ k h fun d n1 v H1 h1 e1 k1 r1 => hb.lf g H0 σ H1 ss n1 w _ _ k1 h1 fun e n2 u H2 h2 e2 k2 r2 => by
    obtain ⟨xs, i, rfl, rfl, h3, h4, h5, h6⟩ := h2
    have r1 := r1.same (h0_ed e2)
    cases r2
    cases r1 with
    | @lst a vs ds ha hA =>
      refine ⟨a, i, vs, rfl, rfl, hsub ha, h3, h4, by rw [hA.len]; exact h5, fun p hp => ?_⟩
      have g1 := same_new (.lst (List.replicate i.toNat vs).flatten) hp
      exact q _ _ _ _ _ h6 ((e1.trans e2).trans (Ed.of g1)) (k2.same g1) (free_of (e1.trans e2) (ne_dk k2.deck) hp) upd_same ((hA.rep _).same (hw_same g1))⟩

/-! ### what may be kept in a slot -/
mutual
def NL : PyData → Bool
  | .list _ => false
  | .dict _ => false
  | .tuple xs => NLA xs
  | _ => true
def NLA : List PyData → Bool
  | [] => true
  | x :: r => NL x && NLA r
end
theorem NLA_all : ∀ {xs : List PyData}, NLA xs = true ↔ ∀ x ∈ xs, NL x = true
  | [] => by simp [NLA]
  | x :: r => by simp [NLA, NLA_all (xs := r)]
mutual
theorem Dq.nl {w w' : Addr → Option Nat} {H : Hp} (hl : ∀ a vs, H a = some (.tup vs) → w' a = none) : ∀ {v : V} {d : PyData}, Dq (hw w H) v d → NL d = true → Dq (hw w' H) v d
  | _, _, .non, _ => .non
  | _, _, .bl b, _ => .bl b
  | _, _, .int i, _ => .int i
  | _, _, .str x, _ => .str x
  | _, _, .lst h q, e => by simp [NL] at e
  | _, _, .tup h q, e => .tup (hw_some.mpr ⟨hl _ _ (hsub h), hsub h⟩) (DqA.nl hl q (by simpa [NL] using e))
theorem DqA.nl {w w' : Addr → Option Nat} {H : Hp} (hl : ∀ a vs, H a = some (.tup vs) → w' a = none) : ∀ {v : List V} {d : List PyData}, DqA (hw w H) v d → NLA d = true → DqA (hw w' H) v d
  | _, _, .nil, _ => .nil
  | _, d :: ds, .cons h q, e => by
    have e : NL d = true ∧ NLA ds = true := by simpa [NLA] using e
    exact .cons (Dq.nl hl h e.1) (DqA.nl hl q e.2)
end
def isOwn : S → Bool
  | .own _ => true
  | _ => false
def noOwn (ss : List S) : Bool := !ss.any isOwn
section
variable {g : Gd} {H0 H H' : Hp} {σ : L2.St} {ss : List S} {n n' : Nat} {w : Addr → Option Nat}
theorem Ok.tups (k : Ok g H0 σ H ss n w) {a : Addr} {vs : List V} (h : H a = some (.tup vs)) : w a = none := by
  cases q : w a with
  | none => rfl
  | some i =>
    rcases k.hid a (by rw [q]; rfl) with z | ⟨_, _, j, xs, h1, h2, h3⟩
    · obtain ⟨vs, z⟩ := k.hd a z
      rw [h] at z
      cases z
    · obtain ⟨b, us, e1, _, _, e2, _⟩ := k.sl j _ h2
      rw [h3] at e1
      cases e1
      rw [h] at e2
      cases e2
theorem Ok.bare (k : Ok g H0 σ H ss n w) (h : noOwn ss = true) : Same (hw g.h H) (hw w H) := fun a o q => by
  obtain ⟨q1, q2⟩ := hw_some.mp q
  refine hw_some.mpr ⟨?_, q2⟩
  cases z : w a with
  | none => rfl
  | some i =>
    rcases k.hid a (by rw [z]; rfl) with e | ⟨_, _, j, xs, _, h2, _⟩
    · rw [q1] at e
      cases e
    · have hm : S.own xs ∈ ss := List.mem_of_getElem? h2
      unfold noOwn at h
      rw [List.any_eq_true.mpr ⟨_, hm, rfl⟩] at h
      cases h
theorem Ok.strong (k : Ok g H0 σ H ss n w) {v : V} {d : PyData} (r : Dq (hw g.h H) v d) (h : NL d = true ∨ noOwn ss = true) : Dq (hw w H) v d := h.elim (fun h => r.nl (fun a vs e => k.tups e) h) fun h => r.same (k.bare h)
theorem Ok.strongA (k : Ok g H0 σ H ss n w) {v : List V} {d : List PyData} (r : DqA (hw g.h H) v d) (h : NLA d = true ∨ noOwn ss = true) : DqA (hw w H) v d := h.elim (fun h => r.nl (fun a vs e => k.tups e) h) fun h => r.same (k.bare h)
/-- the owner i gives up what it hid -/
def drp (w h : Addr → Option Nat) (i : Nat) : Addr → Option Nat := fun a => if h a = none ∧ w a = some i then none else w a
theorem drp_same {h : Addr → Option Nat} {i : Nat} : Same (hw w H) (hw (drp w h i) H) := fun a o q => by
  obtain ⟨q1, q2⟩ := hw_some.mp q
  refine hw_some.mpr ⟨?_, q2⟩
  unfold drp
  rw [q1]
  split <;> rfl
theorem drp_ext {h : Addr → Option Nat} {i : Nat} (e : ∀ a, (h a).isSome → (w a).isSome) : ∀ a, (h a).isSome → (drp w h i a).isSome := fun a q => by
  unfold drp
  rw [if_neg fun z => by rw [z.1] at q; cases q]
  exact e a q
theorem drp_some {h : Addr → Option Nat} {a : Addr} {i j : Nat} (e : drp w h i a = some j) : w a = some j ∧ ((h a).isSome ∨ j ≠ i) := by
  unfold drp at e
  split at e
  · cases e
  · rename_i z
    refine ⟨e, ?_⟩
    cases q : h a with
    | some x => exact .inl rfl
    | none => exact .inr fun z2 => z ⟨q, by rw [e, z2]⟩
theorem drp_of {h : Addr → Option Nat} {a : Addr} {i j : Nat} (e : w a = some j) (hn : j ≠ i) : drp w h i a = some j := by
  unfold drp
  rw [if_neg fun z => hn (by have := z.2; rw [e] at this; exact Option.some.inj this)]
  exact e
/-- data into a slot -/
theorem Ok.put (k : Ok g H0 σ H ss n w) {i : Nat} {v : V} {d : PyData} (r : Dq (hw w H) v d) : Ok g H0 (σ.set i (some v)) H (ss.set i (.d d)) n (drp w g.h i) := by
  refine ⟨by rw [List.length_set, List.length_set, k.len], k.ed, k.deck, drp_ext k.ext, k.hx, fun a ha => ?_, fun j s hs => ?_⟩
  · obtain ⟨j, hj⟩ := Option.isSome_iff_exists.mp ha
    obtain ⟨h1, h2⟩ := drp_some hj
    rcases h2 with h2 | h2
    · exact .inl h2
    · rcases k.hid a (by rw [h1]; rfl) with e | ⟨f1, f2, j', xs, h3, h4, h5⟩
      · exact .inl e
      · have : j' = j := Option.some.inj (h3.symm.trans h1)
        subst this
        exact .inr ⟨f1, f2, j', xs, hj, by rw [List.getElem?_set_ne (Ne.symm h2)]; exact h4, by rw [List.getElem?_set_ne (Ne.symm h2)]; exact h5⟩
  · by_cases e : i = j
    · subst e
      by_cases hl : i < ss.length
      · rw [List.getElem?_set_self hl] at hs
        cases hs
        exact ⟨v, List.getElem?_set_self (by rw [← k.len]; exact hl), r.same drp_same⟩
      · rw [List.getElem?_eq_none (by rw [List.length_set]; omega)] at hs
        cases hs
    · rw [List.getElem?_set_ne e] at hs
      rw [List.getElem?_set_ne e]
      have q := k.sl j s hs
      cases s with
      | d x => obtain ⟨v, h1, h2⟩ := q; exact ⟨v, h1, h2.same drp_same⟩
      | own xs => obtain ⟨a, vs, h1, h2, h3, h4, h5⟩ := q; exact ⟨a, vs, h1, drp_of h2 (Ne.symm e), h3, h4, h5.same drp_same⟩
      | dk => exact q
      | un => trivial
/-- a new list into a slot: the def's own from then on -/
def own1 (w : Addr → Option Nat) (a : Addr) (i : Nat) : Addr → Option Nat := fun b => if b = a then some i else w b
theorem hw_own1 {a : Addr} {i : Nat} {H1 : Hp} (hn : H1 a = none) (e : Same (hw w H1) (hw w H)) : Same (hw w H1) (hw (own1 w a i) H) := fun b o q => by
  have hb : b ≠ a := fun z => by
    rw [z] at q
    rw [(hw_some.mp q).2] at hn
    cases hn
  obtain ⟨q1, q2⟩ := hw_some.mp (e b o q)
  refine hw_some.mpr ⟨?_, q2⟩
  unfold own1
  rw [if_neg hb]
  exact q1
end
end
end Ev

namespace Ev
open PySem PySem.Spec PyProof.Rows L2
section
variable {g : Gd} {H0 H H' : Hp} {σ : L2.St} {ss : List S} {n n' : Nat} {w : Addr → Option Nat}
theorem Ok.putL (k : Ok g H0 σ H ss n w) {i : Nat} {a : Addr} {vs : List V} {xs : List PyData} (h0 : H0 a = none) (hc : a ≠ g.c) (hd : g.h a = none) (hi : i < ss.length) (hw0 : w a = none) (h : H a = some (.lst vs)) (r : DqA (hw (own1 w a i) H) vs xs)
    (hs : ∀ j x, ss[j]? = some (.d x) → j ≠ i → ∃ v, σ[j]? = some (some v) ∧ Dq (hw (own1 w a i) H) v x) (hl : ∀ j us b zs, ss[j]? = some (.own us) → j ≠ i → σ[j]? = some (some (.ref b)) → H b = some (.lst zs) → DqA (hw w H) zs us → DqA (hw (own1 w a i) H) zs us) :
    Ok g H0 (σ.set i (some (.ref a))) H (ss.set i (.own xs)) n (own1 (drp w g.h i) a i) := by
  have hsub : Same (hw (own1 w a i) H) (hw (own1 (drp w g.h i) a i) H) := fun b o q => by
    obtain ⟨q1, q2⟩ := hw_some.mp q
    refine hw_some.mpr ⟨?_, q2⟩
    unfold own1 at q1 ⊢
    by_cases e : b = a
    · rw [if_pos e] at q1
      cases q1
    · rw [if_neg e] at q1 ⊢
      unfold drp
      split
      · rfl
      · exact q1
  have hme : own1 (drp w g.h i) a i a = some i := by unfold own1; rw [if_pos rfl]
  have hne : ∀ {b : Addr}, b ≠ a → own1 (drp w g.h i) a i b = drp w g.h i b := fun {b} e => by unfold own1; rw [if_neg e]
  refine ⟨by rw [List.length_set, List.length_set, k.len], k.ed, k.deck, (fun b hb => by
    by_cases e : b = a
    · rw [e, hme]; rfl
    · rw [hne e]; exact drp_ext k.ext b hb), k.hx, fun b hb => ?_, fun j s hj => ?_⟩
  · by_cases e : b = a
    · subst e
      exact .inr ⟨h0, hc, i, xs, hme, List.getElem?_set_self hi, List.getElem?_set_self (by rw [← k.len]; exact hi)⟩
    · rw [hne e] at hb ⊢
      obtain ⟨j, hj⟩ := Option.isSome_iff_exists.mp hb
      obtain ⟨h1, h2⟩ := drp_some hj
      rcases h2 with h2 | h2
      · exact .inl h2
      · rcases k.hid b (by rw [h1]; rfl) with e | ⟨f1, f2, j', xs, h3, h4, h5⟩
        · exact .inl e
        · have : j' = j := Option.some.inj (h3.symm.trans h1)
          subst this
          exact .inr ⟨f1, f2, j', xs, hj, by rw [List.getElem?_set_ne (Ne.symm h2)]; exact h4, by rw [List.getElem?_set_ne (Ne.symm h2)]; exact h5⟩
  · by_cases e : i = j
    · subst e
      rw [List.getElem?_set_self hi] at hj
      cases hj
      exact ⟨a, vs, List.getElem?_set_self (by rw [← k.len]; exact hi), hme, hd, h, r.same hsub⟩
    · rw [List.getElem?_set_ne e] at hj
      rw [List.getElem?_set_ne e]
      have q := k.sl j s hj
      cases s with
      | d x =>
        obtain ⟨v, h1, h2⟩ := hs j x hj (Ne.symm e)
        exact ⟨v, h1, h2.same hsub⟩
      | own us =>
        obtain ⟨b, zs, h1, h2, h3, h4, h5⟩ := q
        have hba : b ≠ a := fun z => by
          rw [z, hw0] at h2
          cases h2
        exact ⟨b, zs, h1, by rw [hne hba]; exact drp_of h2 (Ne.symm e), h3, h4, (hl j us b zs hj (Ne.symm e) h1 h4 h5).same hsub⟩
      | dk => exact q
      | un => trivial
/-- .. a list that the state ahead did not have -/
theorem Ok.putNew {H1 : Hp} (k1 : Ok g H0 σ H1 ss n w) (e : Ed g.dk H1 H) (k : Ok g H0 σ H ss n' w) {i : Nat} {a : Addr} {vs : List V} {xs : List PyData} (hi : i < ss.length) (hn : H1 a = none) (h : H a = some (.lst vs)) (r : DqA (hw g.h H) vs xs)
    (hx : NLA xs = true ∨ (noOwn ss = true ∧ DqA (hw g.h H1) vs xs)) : Ok g H0 (σ.set i (some (.ref a))) H (ss.set i (.own xs)) n' (own1 (drp w g.h i) a i) ∧ Same (hw w H1) (hw (own1 (drp w g.h i) a i) H) := by
  have hs := hw_own1 (i := i) hn (hw_ed k1.wdk e)
  have hw0 := k1.free hn
  have hd : g.h a = none := k1.hd.none hn
  have hc : a ≠ g.c := fun z => by
    obtain ⟨_, _, q, _⟩ := k1.deck
    rw [← z, hn] at q
    cases q
  have h0 : H0 a = none := free_of k1.ed (ne_dk k1.deck) hn
  have hsub : Same (hw (own1 w a i) H) (hw (own1 (drp w g.h i) a i) H) := fun b o q => by
    obtain ⟨q1, q2⟩ := hw_some.mp q
    refine hw_some.mpr ⟨?_, q2⟩
    unfold own1 at q1 ⊢
    by_cases e : b = a
    · rw [if_pos e] at q1
      cases q1
    · rw [if_neg e] at q1 ⊢
      unfold drp
      split
      · rfl
      · exact q1
  refine ⟨k.putL h0 hc hd hi hw0 h ?_ (fun j x hj _ => ?_) (fun j us b zs hj _ hb hz hq => ?_), fun b o q => hsub b o (hs b o q)⟩
  · rcases hx with hx | ⟨hx, hx2⟩
    · refine r.nl (fun b us hb => ?_) hx
      unfold own1
      by_cases e : b = a
      · rw [e, h] at hb
        cases hb
      · rw [if_neg e]
        exact k.tups hb
    · exact (hx2.same (k1.bare hx)).same hs
  · obtain ⟨v, h1, h2⟩ := k1.sl j _ hj
    exact ⟨v, h1, h2.same hs⟩
  · obtain ⟨b1, vs1, h1, h2, h3, h4, h5⟩ := k1.sl j _ hj
    rw [hb] at h1
    cases h1
    have := e _ _ (Gd.ne h3) h4
    rw [hz] at this
    cases this
    exact h5.same hs
/-- the own list of slot i turns -/
theorem Ok.turn (k : Ok g H0 σ H ss n w) {i : Nat} {a : Addr} {vs vs' : List V} {xs : List PyData} (hi : i < ss.length) (hs : σ[i]? = some (some (.ref a))) (hwa : w a = some i) (hd : g.h a = none) (h : H a = some (.lst vs)) (r : DqA (hw w H) vs' xs) :
    Ok g H0 σ (upd H a (.lst vs')) (ss.set i (.own xs)) n w ∧ Same (hw w H) (hw w (upd H a (.lst vs'))) := by
  have hsm : Same (hw w H) (hw w (upd H a (.lst vs'))) := fun b o q => by
    obtain ⟨q1, q2⟩ := hw_some.mp q
    have hb : b ≠ a := fun z => by rw [z, hwa] at q1; cases q1
    exact hw_some.mpr ⟨q1, by rw [upd_ne hb]; exact q2⟩
  obtain ⟨hid0, hid1, hid2⟩ : H0 a = none ∧ a ≠ g.c ∧ True := by
    rcases k.hid a (by rw [hwa]; rfl) with e | ⟨f1, f2, _⟩
    · rw [hd] at e
      cases e
    · exact ⟨f1, f2, trivial⟩
  refine ⟨⟨by rw [List.length_set, k.len], fun b o hb q => ?_, ?_, k.ext, k.hx, fun b hb => ?_, fun j s hj => ?_⟩, hsm⟩
  · have : b ≠ a := fun z => by rw [z, hid0] at q; cases q
    rw [upd_ne this]
    exact k.ed b o hb q
  · obtain ⟨h1, h2, h3, p, q, h4, h5⟩ := k.deck
    exact ⟨h1, h2, by rw [upd_ne (Ne.symm hid1)]; exact h3, p, q, h4, by rw [upd_ne (Ne.symm (Gd.ne hd))]; exact h5⟩
  · rcases k.hid b hb with e | ⟨f1, f2, j, us, h3, h4, h5⟩
    · exact .inl e
    · by_cases e : i = j
      · subst e
        exact .inr ⟨f1, f2, i, xs, h3, List.getElem?_set_self hi, h5⟩
      · exact .inr ⟨f1, f2, j, us, h3, by rw [List.getElem?_set_ne e]; exact h4, h5⟩
  · by_cases e : i = j
    · subst e
      rw [List.getElem?_set_self hi] at hj
      cases hj
      exact ⟨a, vs', hs, hwa, hd, upd_same, r.same hsm⟩
    · rw [List.getElem?_set_ne e] at hj
      have q := k.sl j s hj
      cases s with
      | d x => obtain ⟨v, h1, h2⟩ := q; exact ⟨v, h1, h2.same hsm⟩
      | own us =>
        obtain ⟨b, zs, h1, h2, h3, h4, h5⟩ := q
        have hb : b ≠ a := fun z => by rw [z, hwa] at h2; exact e (Option.some.inj h2)
        exact ⟨b, zs, h1, h2, h3, by rw [upd_ne hb]; exact h4, h5.same hsm⟩
      | dk => exact q
      | un => trivial
end

/-! ### statements -/
structure DEnds where
  nx : List S → Nat → Prop
  rt : DQ
  bk : List S → Nat → Prop := fun _ _ => False
  ct : List S → Nat → Prop := fun _ _ => False
  rl : List PyData → Nat → Prop := fun _ _ => False
  /-- raised: the class's name, the error's one field -/
  rx : Str → PyData → Nat → Prop := fun _ _ _ => False
  /-- names of classes: where they stand, their errors' field -/
  cl : Str → Addr → Str → Prop := fun _ _ _ => False
  E : XK := fun _ _ _ => False
abbrev DS := DEnds → List S → Nat → Prop
/-- what follows, from a state with the visible heap Hv: told of data, it stands -/
def Nx (g : Gd) (H0 : Hp) (Hv : Hp) (q : List S → Nat → Prop) (Q : L2.St → Hp → Prop) : Prop := ∀ σ H ss n w, Ok g H0 σ H ss n w → Same Hv (hw w H) → q ss n → Q σ H
structure EndsOk (g : Gd) (H0 : Hp) (Hv : Hp) (DD : DEnds) (D : Ends) : Prop where
  nx : Nx g H0 Hv DD.nx D.nx
  bk : Nx g H0 Hv DD.bk D.bk
  ct : Nx g H0 Hv DD.ct D.ct
  rt : ∀ v H d n, Ed g.dk H0 H → Deck g n H → Dq (hw g.h H) v d → DD.rt d n → D.rt v H
  rl : ∀ a vs H xs n, Ed g.dk H0 H → Deck g n H → H0 a = none → H a = some (.lst vs) → DqA (hw g.h H) vs xs → DD.rl xs n → D.rt (.ref a) H
  rx : ∀ c x n C f d v H, DD.rx c x n → DD.cl c C f → Ed g.dk H0 H → Deck g n H → H0 d = none → H d = some (.xd [(f, v)]) → Dq (hw g.h H) v x → DD.E (.ref C) (some d) H
theorem Nx.mono {g : Gd} {H0 Hv Hv' : Hp} {q : List S → Nat → Prop} {Q : L2.St → Hp → Prop} (h : Nx g H0 Hv q Q) (e : Same Hv Hv') : Nx g H0 Hv' q Q := fun σ H ss n w k s => h σ H ss n w k (e.trans s)
theorem EndsOk.mono {g : Gd} {H0 Hv Hv' : Hp} {DD : DEnds} {D : Ends} (h : EndsOk g H0 Hv DD D) (e : Same Hv Hv') : EndsOk g H0 Hv' DD D := ⟨h.nx.mono e, h.bk.mono e, h.ct.mono e, h.rt, h.rl, h.rx⟩
def LfS (t : TS) (p : DS) : Prop := ∀ (g : Gd) (H0 : Hp) (σ : L2.St) (H : Hp) (ss : List S) (n : Nat) (w : Addr → Option Nat) (D : Ends) (DD : DEnds), Ok g H0 σ H ss n w → p DD ss n → EndsOk g H0 (hw w H) DD D → t D σ H
structure PLS (X : Cx) (st : Stmt) (t : TS) (p : DS) : Prop where
  ps : PS X st t
  lf : LfS t p
structure PLB (X : Cx) (st : List Stmt) (t : TS) (p : DS) : Prop where
  ps : PSs X st t
  lf : LfS t p
section
variable {X : Cx} {e a b c : Expr} {es : List Expr} {t ta tb tc : TE} {tt tu : TT} {tA : TA} {p pa pb pc : DE} {pt pu : DT} {pA : DA} {pos apos : Pos} {st : Stmt} {sts sts' : List Stmt} {ts tz : TS} {q r : DS}
def dSeq (q r : DS) : DS := fun DD ss n => q { DD with nx := r DD } ss n
theorem lf_seq (h1 : LfS ts q) (h2 : LfS tz r) : LfS (tSeq ts tz) (dSeq q r) := fun g H0 σ H ss n w D DD k h E =>
  h1 g H0 σ H ss n w _ _ k h ⟨fun σ' H' ss' n' w' k' s h' => h2 g H0 σ' H' ss' n' w' _ _ k' h' (E.mono s), E.bk, E.ct, E.rt, E.rl, E.rx⟩
theorem b_cons (h1 : PLS X st ts q) (h2 : PLB X sts tz r) : PLB X (st :: sts) (tSeq ts tz) (dSeq q r) := ⟨pss_cons h1.ps h2.ps, lf_seq h1.lf h2.lf⟩
theorem b_one (h1 : PLS X st ts q) : PLB X [st] ts q := ⟨pss_one h1.ps, h1.lf⟩
def dNext : DS := fun DD ss n => DD.nx ss n
theorem b_nil : PLB X [] tNext dNext := ⟨pss_nil, fun g H0 σ H ss n w D DD k h E => E.nx _ _ _ _ _ k (Same.refl _) h⟩
/-- x = e, data -/
def canD (ss : List S) (d : PyData) : Prop := NL d = true ∨ noOwn ss = true
def dSet (i : Nat) (p : DE) : DS := fun DD ss n => p ss n fun d n' => canD ss d ∧ DD.nx (ss.set i (.d d)) n'
theorem s_set {i : Nat} {x : Str} {pos' : Pos} (hN : X.N.Nodup) (hi : X.N[i]? = some x) (hx : L2.Loc X.env.scope x) (he : PL X e ta pa) (hsw : swapsWith e (some (.Name x pos')) pos.line X.env = pure false := by rfl)
    (hf : X.fn x = true ∨ X.env.scope.names.lookup x = some .local := by first | exact .inl rfl | exact .inr rfl) : PLS X (.Assign [.Name x pos'] e pos) (tAsg ta (gName i)) (dSet i pa) :=
  ⟨ps_set hN hi hx he.pe hsw hf, fun g H0 σ H ss n w D DD k h E => he.lf g H0 σ H ss n w _ _ k h fun d n' v H' h1 e1 k1 r1 =>
    E.nx _ _ _ _ _ (k1.put (k1.strong r1 h1.1)) (fun b o q => drp_same _ _ (hw_ed k.wdk e1 b o q)) h1.2⟩
/-- x = a new list -/
def dSetL (i : Nat) (p : DL) : DS := fun DD ss n => p ss n fun xs n' => i < ss.length ∧ NLA xs = true ∧ DD.nx (ss.set i (.own xs)) n'
theorem lf_setL {i : Nat} {pl : DL} (h : LfL t pl) : LfS (tAsg t (gName i)) (dSetL i pl) := fun g H0 σ H ss n w D DD k hp E => h g H0 σ H ss n w _ _ k hp fun xs n' a vs H' h1 e1 k1 f1 g1 r1 => by
  obtain ⟨k2, s2⟩ := Ok.putNew k e1 k1 h1.1 f1 g1 r1 (.inl h1.2.1)
  exact E.nx _ _ _ _ _ k2 s2 h1.2.2
theorem s_setL {i : Nat} {x : Str} {pos' : Pos} {pl : DL} (hN : X.N.Nodup) (hi : X.N[i]? = some x) (hx : L2.Loc X.env.scope x) (he : PLL X e ta pl) (hsw : swapsWith e (some (.Name x pos')) pos.line X.env = pure false := by rfl)
    (hf : X.fn x = true ∨ X.env.scope.names.lookup x = some .local := by first | exact .inl rfl | exact .inr rfl) : PLS X (.Assign [.Name x pos'] e pos) (tAsg ta (gName i)) (dSetL i pl) := ⟨ps_set hN hi hx he.pe hsw hf, lf_setL he.lf⟩
/-- return -/
def dRet (p : DE) : DS := fun DD ss n => p ss n fun d n' => DD.rt d n'
theorem s_ret (he : PL X e ta pa) : PLS X (.Return (some e) pos) (tRet ta) (dRet pa) := ⟨ps_ret he.pe, fun g H0 σ H ss n w D DD k h E => he.lf g H0 σ H ss n w _ _ k h fun d n' v H' h1 e1 k1 r1 => E.rt v H' d n' k1.ed k1.deck r1 h1⟩
/-- return x, a list of the def's own; return a new list -/
def dRetO (i : Nat) : DS := fun DD ss n => ∃ xs, ss[i]? = some (.own xs) ∧ DD.rl xs n
theorem s_retO {i : Nat} {x : Str} {p1 : Pos} (ho : PL X (.Name x p1) (tVar i) (dVar i)) : PLS X (.Return (some (.Name x p1)) pos) (tRet (tVar i)) (dRetO i) := ⟨ps_ret ho.pe, fun g H0 σ H ss n w D DD k h E => by
  obtain ⟨xs, hx, h⟩ := h
  obtain ⟨a, vs, h1, h2, h3, h4, h5⟩ := k.sl i _ hx
  have h0 : H0 a = none := by
    rcases k.hid a (by rw [h2]; rfl) with e | ⟨f1, _⟩
    · rw [h3] at e
      cases e
    · exact f1
  exact ⟨_, h1, E.rl a vs H xs n k.ed k.deck h0 h4 (h5.same (hw_h0 k.ext)) h⟩⟩
def dRetL (p : DL) : DS := fun DD ss n => p ss n fun xs n' => DD.rl xs n'
theorem s_retL {pl : DL} (he : PLL X e ta pl) : PLS X (.Return (some e) pos) (tRet ta) (dRetL pl) := ⟨ps_ret he.pe, fun g H0 σ H ss n w D DD k h E => he.lf g H0 σ H ss n w _ _ k h fun xs n' a vs H' h1 e1 k1 f1 g1 r1 =>
  E.rl a vs H' xs n' k1.ed k1.deck (free_of k.ed (ne_dk k.deck) f1) g1 r1 h1⟩
def dIfS (pt : DT) (q r : DS) : DS := fun DD ss n => pt ss n fun b n' => if b = true then q DD ss n' else r DD ss n'
theorem s_if (hc : PLT X c tt pt) (h1 : PLB X sts ts q) (h2 : PLB X sts' tz r) : PLS X (.If c sts sts' pos) (tIfS tt ts tz) (dIfS pt q r) := ⟨ps_if hc.pt h1.ps h2.ps, fun g H0 σ H ss n w D DD k h E => hc.lf g H0 σ H ss n w _ _ k h fun b n' H' h1' e1 k1 => by
  have E1 := E.mono (hw_ed k.wdk e1)
  cases b with
  | true =>
    rw [if_pos rfl] at h1' ⊢
    exact h1.lf g H0 σ H' ss n' w _ _ k1 h1' E1
  | false =>
    rw [if_neg Bool.false_ne_true] at h1' ⊢
    exact h2.lf g H0 σ H' ss n' w _ _ k1 h1' E1⟩
/-- x.append(e), x a list of the def's own -/
def dApp (i : Nat) (p : DE) : DS := fun DD ss n => ∃ xs, ss[i]? = some (.own xs) ∧ p ss n fun d n' => xs.length < sizeLine ∧ NL d = true ∧ DD.nx (ss.set i (.own (xs ++ [d]))) n'
theorem lt_of_get {α : Type} {l : List α} {i : Nat} {x : α} (h : l[i]? = some x) : i < l.length := (List.getElem?_eq_some_iff.mp h).1
theorem s_app {i : Nat} {x : Str} {p1 p2 p3 : Pos} (ho : PL X (.Name x p1) (tVar i) (dVar i)) (he : PL X e ta pa) (hfew : ((backTo p3 (starEach [e] X.env)).all (fun x => !x.1) && (backToKw p3 (keywordEach [] X.env)).all (fun x => x.1.isSome)
      && decide (([e] : List Expr).length + ([] : List Keyword).length + (if ([] : List Keyword).isEmpty then 0 else 1) < 30)) = true := by rfl) (hbase : attributeBase (.Name x p1) "append" X.env (eval (.Name x p1) X.env) = eval (.Name x p1) X.env := by rfl)
    (hline : (p2.endLine == p3.line) = true := by rfl) (hs : starEach [e] X.env = (false, eval e X.env) :: starEach [] X.env := by rfl) (hsw : swapsWith (.Call (.Attribute (.Name x p1) "append" p2) [e] [] p3) none pos.line X.env = pure false := by rfl) :
    PLS X (.Expr (.Call (.Attribute (.Name x p1) "append" p2) [e] [] p3) pos) (tDrop (tBM X.K "list" rAppend (tVar i) (tCons ta tNil))) (dApp i pa) :=
  ⟨ps_expr (pe_bm PySem.F.plainAttrs_list PySem.F.slot_list_append PySem.F.type_list_append mt_append ho.pe (pa_cons he.pe pa_nil hs) hbase hfew hline hs rfl) hsw, fun g H0 σ H ss n w D DD k h E => by
  obtain ⟨xs, hx, h⟩ := h
  obtain ⟨a, vs, h1, h2, h3, h4, h5⟩ := k.sl i _ hx
  refine ⟨_, h1, .inl ⟨rfl, vs, SqL.of h4⟩, he.lf g H0 σ H ss n w _ _ k h fun d n' v H' h6 e1 k1 r1 => ?_⟩
  obtain ⟨hz, hn, hq⟩ := h6
  obtain ⟨a', vs', g1, g2, g3, g4, g5⟩ := k1.sl i _ hx
  rw [h1] at g1
  cases g1
  refine ⟨a, vs', v, rfl, rfl, g4, by rw [g5.len]; exact hz, ?_⟩
  obtain ⟨k2, s2⟩ := k1.turn (vs' := vs' ++ [v]) (xs := xs ++ [d]) (lt_of_get hx) h1 g2 g3 g4 (g5.app (.cons (k1.strong r1 (.inl hn)) .nil))
  exact E.nx _ _ _ _ _ k2 (fun b o q => s2 b o (hw_ed k.wdk e1 b o q)) hq⟩
/-- x[i] = e, x a list of the def's own -/
def dSetIx (i : Nat) (pi p : DE) : DS := fun DD ss n => ∃ xs, ss[i]? = some (.own xs) ∧ p ss n fun d n1 => pi ss n1 fun y n2 => ∃ z j, y = .int z ∧ ixN xs.length z = some j ∧ NL d = true ∧ DD.nx (ss.set i (.own (xs.set j d))) n2
theorem lf_setIx {i : Nat} {ti te : TE} {pi p : DE} (he : Lf te p) (hi : Lf ti pi) : LfS (tAsg te (gSub (tVar i) ti rSetL)) (dSetIx i pi p) := fun g H0 σ H ss n w D DD k h E => by
  obtain ⟨xs, hx, h⟩ := h
  refine he g H0 σ H ss n w _ _ k h fun d n1 v H1 h1 e1 k1 r1 => ?_
  obtain ⟨a, vs, g1, g2, g3, g4, g5⟩ := k1.sl i _ hx
  refine ⟨_, g1, hi g H0 σ H1 ss n1 w _ _ k1 h1 fun y n2 u H2 h2 e2 k2 r2 => ?_⟩
  obtain ⟨z, j, rfl, hj, hn, hq⟩ := h2
  cases r2
  obtain ⟨a', vs', f1, f2, f3, f4, f5⟩ := k2.sl i _ hx
  rw [g1] at f1
  cases f1
  refine ⟨a, vs', z, j, rfl, rfl, f4, by rw [f5.len]; exact hj, ?_⟩
  obtain ⟨k3, s3⟩ := k2.turn (vs' := vs'.set j v) (xs := xs.set j d) (lt_of_get hx) g1 f2 f3 f4 (f5.set (k2.strong (r1.same (h0_ed e2)) (.inl hn)) j)
  exact E.nx _ _ _ _ _ k3 (fun b o q => s3 b o (hw_ed k.wdk (e1.trans e2) b o q)) hq
theorem s_setIx {i : Nat} {x : Str} {p1 p2 : Pos} (ho : PL X (.Name x p1) (tVar i) (dVar i)) (hi : PL X b tb pb) (he : PL X e ta pa)
    (hass : ∀ v, assign (.Subscript (.Name x p1) b p2) X.env v = (do { let ov ← holding [v] (eval (.Name x p1) X.env); let iv ← holding [v, ov] (eval b X.env); standAt p2; holding [v, ov, iv] (setItem ov iv v); release [v, ov, iv] [] }) := by intro _; rfl)
    (hsw : swapsWith e (some (.Subscript (.Name x p1) b p2)) pos.line X.env = pure false := by rfl) :
    PLS X (.Assign [.Subscript (.Name x p1) b p2] e pos) (tAsg ta (gSub (tVar i) tb rSetL)) (dSetIx i pb pa) := ⟨ps_asg he.pe (pg_sub ho.pe hi.pe set_list hass) hsw, lf_setIx he.lf hi.lf⟩

/-! ### targets -/
abbrev DG := PyData → List S → Nat → (List S → Nat → Prop) → Prop
def LfG (t : TG) (is : List Nat) (p : DG) : Prop := ∀ (g : Gd) (H0 : Hp) (σ : L2.St) (H : Hp) (ss : List S) (n : Nat) (w : Addr → Option Nat) (v : V) (d : PyData) (Q : L2.St → Hp → Prop) (Q1 : List S → Nat → Prop), Ok g H0 σ H ss n w → Dq (hw w H) v d → p d ss n Q1 →
  (∀ σ' ss' w', Ok g H0 σ' H ss' n w' → Same (hw w H) (hw w' H) → (∀ vs, (∀ i ∈ is, i ∈ vs) → wipe σ' vs = wipe σ vs) → Q1 ss' n → Q σ' H) → t v σ H Q
structure PLTg (X : Cx) (e : Expr) (t : TG) (is : List Nat) (p : DG) : Prop where
  pg : PG X e t
  lf : LfG t is p
theorem wipe_set {σ : L2.St} {i : Nat} {x : Option V} : ∀ {vs : List Nat}, i ∈ vs → wipe (σ.set i x) vs = wipe σ vs
  | [], h => by cases h
  | v :: vs, h => by
    unfold wipe
    by_cases e : i ∈ vs
    · rw [wipe_set e]
    · have e2 : i = v := (List.mem_cons.mp h).resolve_right e
      subst e2
      clear h
      have : ∀ us : List Nat, i ∉ us → wipe (σ.set i x) us = (wipe σ us).set i x := fun us => by
        induction us with
        | nil => exact fun _ => rfl
        | cons u r ih =>
          intro hu
          unfold wipe
          rw [ih fun z => hu (List.mem_cons_of_mem _ z), List.set_comm _ _ fun z => hu (by rw [← z]; exact List.mem_cons_self)]
      rw [this vs e, List.set_set]
def dgName (i : Nat) : DG := fun d ss n Q => Q (ss.set i (.d d)) n
theorem g_name {i : Nat} {x : Str} (hN : X.N.Nodup) (hi : X.N[i]? = some x) (hx : L2.Loc X.env.scope x) (hf : X.fn x = true ∨ X.env.scope.names.lookup x = some .local := by first | exact .inl rfl | exact .inr rfl) : PLTg X (.Name x pos) (gName i) [i] (dgName i) :=
  ⟨pg_name hN hi hx hf, fun g H0 σ H ss n w v d Q Q1 k r h q => q _ _ _ (k.put r) drp_same (fun vs hv => wipe_set (hv i List.mem_cons_self)) h⟩
abbrev DGs := List PyData → List S → Nat → (List S → Nat → Prop) → Prop
def LfGs (t : TGs) (is : List Nat) (p : DGs) : Prop := ∀ (g : Gd) (H0 : Hp) (σ : L2.St) (H : Hp) (ss : List S) (n : Nat) (w : Addr → Option Nat) (vs : List V) (ds : List PyData) (Q : L2.St → Hp → Prop) (Q1 : List S → Nat → Prop), Ok g H0 σ H ss n w → DqA (hw w H) vs ds → p ds ss n Q1 →
  (∀ σ' ss' w', Ok g H0 σ' H ss' n w' → Same (hw w H) (hw w' H) → (∀ vs, (∀ i ∈ is, i ∈ vs) → wipe σ' vs = wipe σ vs) → Q1 ss' n → Q σ' H) → t vs σ H Q
structure PLTgs (X : Cx) (es : List Expr) (t : TGs) (is : List Nat) (p : DGs) : Prop where
  pg : PGs X es t
  lf : LfGs t is p
def dgNil : DGs := fun ds ss n Q => ds = [] ∧ Q ss n
def dgCons (p : DG) (r : DGs) : DGs := fun ds ss n Q => match ds with
  | [] => False
  | d :: ds => p d ss n fun ss' n' => r ds ss' n' Q
theorem gs_nil : PLTgs X [] gNil [] dgNil := ⟨pgs_nil, fun g H0 σ H ss n w vs ds Q Q1 k r h q => by
  obtain ⟨rfl, h⟩ := h
  cases r
  exact ⟨rfl, q _ _ _ k (Same.refl _) (fun _ _ => rfl) h⟩⟩
theorem gs_cons {tg : TG} {tr : TGs} {is js : List Nat} {pg : DG} {pr : DGs} (h1 : PLTg X e tg is pg) (h2 : PLTgs X es tr js pr) (hm : List.map (fun x => x.snd) (assignEach (e :: es) X.env) = assign e X.env :: List.map (fun x => x.snd) (assignEach es X.env) := by rfl) :
    PLTgs X (e :: es) (gCons tg tr) (is ++ js) (dgCons pg pr) := ⟨pgs_cons h1.pg h2.pg hm, fun g H0 σ H ss n w vs ds Q Q1 k r h q => by
  cases r with
  | nil => exact h.elim
  | @cons v vs d ds r rr =>
    exact ⟨v, vs, rfl, h1.lf g H0 σ H ss n w v d _ _ k r h fun σ1 ss1 w1 k1 s1 f1 h1 => h2.lf g H0 σ1 H ss1 n w1 vs ds _ _ k1 (rr.same s1) h1 fun σ2 ss2 w2 k2 s2 f2 h2 =>
      q σ2 ss2 w2 k2 (s1.trans s2) (fun us hu => (f2 us fun i hi => hu i (List.mem_append_right _ hi)).trans (f1 us fun i hi => hu i (List.mem_append_left _ hi))) h2⟩⟩
def dgTup (n : Nat) (p : DGs) : DG := fun d ss m Q => ∃ ds, d = .tuple ds ∧ ds.length = n ∧ p ds ss m Q
theorem g_tup {k n : Nat} {tr : TGs} {is : List Nat} {pr : DGs} (hc : X.calm = true) (h : PLTgs X es tr is pr) (hn : (assignEach es X.env).length = n := by rfl) (hst : List.findIdx? (fun x => x.fst) (assignEach es X.env) = none := by rfl) :
    PLTg X (.Tuple es k pos) (gTup X.K n tr) is (dgTup n pr) := ⟨pg_tup hc h.pg hn hst, fun g H0 σ H ss m w v d Q Q1 kk r h' q => by
  obtain ⟨ds, rfl, hl, h'⟩ := h'
  cases r with
  | @tup a vs _ ha hA => exact ⟨a, vs, rfl, SqT.of (hsub ha), by rw [hA.len]; exact hl, h.lf g H0 σ H ss m w vs ds _ _ kk hA h' q⟩⟩
/-- a, b = e: data unpacked -/
def dAsgT (p : DE) (pg : DG) : DS := fun DD ss n => p ss n fun d n' => canD ss d ∧ pg d ss n' fun ss' n2 => DD.nx ss' n2
theorem s_asgT {tg : TG} {is : List Nat} {pg : DG} {y : Expr} (he : PL X e ta pa) (hg : PLTg X y tg is pg) (hsw : swapsWithSole [y] e pos.line X.env = pure false := by rfl) (hst : swappedStores [y] e X.env = pure none := by rfl)
    (h1 : (assignEach [y] X.env).map (·.2) = [assign y X.env] := by rfl) : PLS X (.Assign [y] e pos) (tAsg ta tg) (dAsgT pa pg) :=
  ⟨ps_asg he.pe hg.pg hsw hst h1, fun g H0 σ H ss n w D DD k h E => he.lf g H0 σ H ss n w _ _ k h fun d n' v H' h1 e1 k1 r1 =>
    hg.lf g H0 σ H' ss n' w v d _ _ k1 (k1.strong r1 h1.1) h1.2 fun σ' ss' w' k2 s2 _ h2 => E.nx _ _ _ _ _ k2 (fun b o q => s2 b o (hw_ed k.wdk e1 b o q)) h2⟩
/-- a, b = e1, e2 -/
def dPar (i j : Nat) (p q : DE) : DS := fun DD ss n => p ss n fun d n1 => q ss n1 fun e n2 => i ≠ j ∧ canD ss d ∧ canD ss e ∧ DD.nx ((ss.set i (.d d)).set j (.d e)) n2
theorem s_par {i j : Nat} {x y : Str} {px py pt' : Pos} {kt k2 : Nat} {pt2 : Pos} (hc : X.calm = true) (hN : X.N.Nodup) (hi : X.N[i]? = some x) (hj : X.N[j]? = some y) (hij : i ≠ j) (hx : List.lookup x X.env.scope.names = some .local) (hy : List.lookup y X.env.scope.names = some .local)
    (ha : PL X a ta pa) (hb : PL X b tb pb) (hs : starEach [a, b] X.env = (false, eval a X.env) :: starEach [b] X.env := by rfl) (hs2 : starEach [b] X.env = (false, eval b X.env) :: starEach [] X.env := by rfl)
    (hsw : swappedStores [.Tuple [.Name x px, .Name y py] kt pt'] (.Tuple [a, b] k2 pt2) X.env = pure (some [x, y]) := by rfl) (hsole : swapsWithSole [.Tuple [.Name x px, .Name y py] kt pt'] (.Tuple [a, b] k2 pt2) pos.line X.env = pure false := by rfl) :
    PLS X (.Assign [.Tuple [.Name x px, .Name y py] kt pt'] (.Tuple [a, b] k2 pt2) pos) (tPar i j (tCons ta (tCons tb tNil))) (dPar i j pa pb) :=
  ⟨ps_par hc hN hi hj hij hx hy (pa_cons ha.pe (pa_cons hb.pe pa_nil hs2) hs) hsw hsole, fun g H0 σ H ss n w D DD k h E => ha.lf g H0 σ H ss n w _ _ k h fun d n1 v H1 h1 e1 k1 r1 => hb.lf g H0 σ H1 ss n1 w _ _ k1 h1 fun e n2 u H2 h2 e2 k2 r2 => by
    obtain ⟨_, c1, c2, h2⟩ := h2
    have k3 := k2.put (i := i) (k2.strong (r1.same (h0_ed e2)) c1)
    have s3 : Same (hw w H2) (hw (drp w g.h i) H2) := drp_same
    have k4 := k3.put (i := j) ((k2.strong r2 c2).same s3)
    exact ⟨v, u, rfl, E.nx _ _ _ _ _ k4 (fun b o q => drp_same _ _ (s3 b o (hw_ed k.wdk (e1.trans e2) b o q))) h2⟩⟩
end

/-! ### a def's promise from its body -/
def toS : W → S
  | .d x => .d x
  | .dk => .dk
def startS (N : List Str) (as : List W) : List S := as.map toS ++ List.replicate (N.length - as.length) .un
theorem ok_start {g : Gd} {n : Nat} {H : Hp} {N : List Str} {vs : List V} {as : List W} (d : Deck g n H) (hh : Hid g.h H) (r : WsOk g H vs as) : Ok g H (L2.start N vs) H (startS N as) n g.h := by
  refine ⟨by unfold L2.start startS; simp [r.len], Ed.refl _ _, d, fun _ q => q, hh, fun a ha => .inl ha, fun i s hs => ?_⟩
  · have key : ∀ {vs : List V} {as : List W} (z : List (Option V)) (i : Nat), WsOk g H vs as → i < as.length → ∃ a v, as[i]? = some a ∧ (vs.map some ++ z)[i]? = some (some v) ∧ WOk g H v a := fun {vs as} z i r => by
      induction r generalizing i with
      | nil => intro h; exact absurd h (Nat.not_lt_zero _)
      | @cons v vs a as h q ih =>
        intro hi
        cases i with
        | zero => exact ⟨a, v, rfl, rfl, h⟩
        | succ i => exact ih i (Nat.lt_of_succ_lt_succ hi)
    unfold startS at hs
    by_cases hi : i < as.length
    · obtain ⟨a, v, h1, h2, h3⟩ := key (List.replicate (N.length - vs.length) none) i r hi
      rw [List.getElem?_append_left (by rw [List.length_map]; exact hi), List.getElem?_map, h1] at hs
      cases hs
      cases a with
      | d x => exact ⟨v, h2, h3⟩
      | dk =>
        have h3 : v = .ref g.dk := h3
        subst h3
        exact h2
    · rw [List.getElem?_append_right (by rw [List.length_map]; omega)] at hs
      have := List.mem_of_getElem? hs
      rw [List.eq_of_mem_replicate this]
      trivial
section
variable {P : Program} {w : World} {K : PySem.W.Frag} {mg : Str → Option Value} {base : Heap} {k : Nat} {f : Addr} {fd : FuncData}
/-- what a body's context is -/
abbrev cxB (P : Program) (w : World) (K : PySem.W.Frag) (mg : Str → Option Value) (base : Heap) (N : List Str) (qual : Str) (st : Stmt) (f : Addr) (cdv : Value) (A : Around) (o : List Env) (s : Shared) (H : Hp) (E : XK) : Cx := (cxOf CX0 P w K mg base N qual (defScope st) f cdv A o s H E).nox
theorem fn_def {N ps : List Str} {x qual : Str} {st : Stmt} {F : DF} {p : DS} (U : Fun K x qual st f fd) (S : FnScope N ps (defScope st)) (len : ∀ as n Q, F as n Q → as.length = ps.length)
    (body : ∀ (cdv : Value) (A : Around) (o : List Env) (s : Shared) (H : Hp) (E : XK), Room k (cxB P w K mg base N qual st f cdv A o s H E).A → (cxB P w K mg base N qual st f cdv A o s H E).A.guards = some [] → ∃ t, PLB (cxB P w K mg base N qual st f cdv A o s H E) (defBody st) t p)
    (h : ∀ as n Q, F as n Q → p { nx := fun _ n' => Q .none n', rt := Q } (startS N as) n) : FnG P w K mg base CX0 (k + 1) f fd ps (spD F) := by
  refine fnG_of U S (fun vs H Q E q => ?_) (fun cdv A o s H vs Q E hr hg q => ?_)
  · obtain ⟨g, n, as, Q1, _, r, h1, _⟩ := q
    rw [r.len]
    exact len _ _ _ h1
  · obtain ⟨g, n, as, Q1, d, r, h1, back⟩ := q
    obtain ⟨t, B⟩ := body cdv A o s H E hr hg
    refine ⟨t, B.ps.nox, B.lf g H (L2.start N vs) H (startS N as) n g.h _ _ (ok_start d.1 d.2 r) (h as n Q1 h1) ⟨fun σ' H' ss n' w' k' _ h' => ?_, fun _ _ _ _ _ _ _ h' => h'.elim, fun _ _ _ _ _ _ _ h' => h'.elim, fun v H' dd n' e1 d1 r1 h1 => ?_, fun _ _ _ _ _ _ _ _ _ _ h' => h'.elim, fun _ _ _ _ _ _ _ _ h' => h'.elim⟩⟩
    · exact back _ _ _ _ h' k'.ed k'.deck .non
    · exact back _ _ _ _ h1 e1 d1 r1
/-- .. of a def that gives a new list -/
theorem fn_defL {N ps : List Str} {x qual : Str} {st : Stmt} {F : DFL} {p : DS} (U : Fun K x qual st f fd) (S : FnScope N ps (defScope st)) (len : ∀ as n Q, F as n Q → as.length = ps.length)
    (body : ∀ (cdv : Value) (A : Around) (o : List Env) (s : Shared) (H : Hp) (E : XK), Room k (cxB P w K mg base N qual st f cdv A o s H E).A → (cxB P w K mg base N qual st f cdv A o s H E).A.guards = some [] → ∃ t, PLB (cxB P w K mg base N qual st f cdv A o s H E) (defBody st) t p)
    (h : ∀ as n Q, F as n Q → p { nx := fun _ _ => False, rt := fun _ _ => False, rl := Q } (startS N as) n) : FnG P w K mg base CX0 (k + 1) f fd ps (spL F) := by
  refine fnG_of U S (fun vs H Q E q => ?_) (fun cdv A o s H vs Q E hr hg q => ?_)
  · obtain ⟨g, n, as, Q1, _, r, h1, _⟩ := q
    rw [r.len]
    exact len _ _ _ h1
  · obtain ⟨g, n, as, Q1, d, r, h1, back⟩ := q
    obtain ⟨t, B⟩ := body cdv A o s H E hr hg
    exact ⟨t, B.ps.nox, B.lf g H (L2.start N vs) H (startS N as) n g.h _ _ (ok_start d.1 d.2 r) (h as n Q1 h1) ⟨fun _ _ _ _ _ _ _ h' => h'.elim, fun _ _ _ _ _ _ _ h' => h'.elim, fun _ _ _ _ _ _ _ h' => h'.elim, fun _ _ _ _ _ _ _ h' => h'.elim,
      fun a us H' xs n' e1 d1 h0 h2 r1 h' => back xs n' a us H' h' e1 d1 h0 h2 r1, fun _ _ _ _ _ _ _ _ h' => h'.elim⟩⟩
end
end Ev

namespace Ev
open PySem PySem.Spec PyProof.Rows L2
/-! ### what is walked -/
/-- J yields the data xs, one by one, as long as what was visible stands -/
def WalksD (g : Gd) (J : It) (xs : List PyData) (Hv : Hp) : Prop := ∀ H w', Same Hv (hw w' H) → (w' g.dk).isSome → H g.dk ≠ none →
  (∀ i, i < xs.length → J.go i H) ∧ (∀ i v H', J.yld i H v H' → i < xs.length → Same H H' ∧ (∀ d, xs[i]? = some d → (∀ p, H p = none → w' p = none) → Dq (hw w' H') v d)) ∧ J.stop xs.length H
abbrev DI := List S → Nat → (List PyData → Nat → Prop) → Prop
def LfI (wi : TI) (p : DI) : Prop := ∀ (g : Gd) (H0 : Hp) (σ : L2.St) (H : Hp) (ss : List S) (n : Nat) (w : Addr → Option Nat) (R : It → Hp → Prop) (Q1 : List PyData → Nat → Prop), Ok g H0 σ H ss n w → p ss n Q1 →
  (∀ xs n' H' J, Q1 xs n' → Ed g.dk H H' → Ok g H0 σ H' ss n' w → WalksD g J xs (hw w H') → R J H') → wi σ H R
structure PLI (X : Cx) (tg e : Expr) (wi : TI) (p : DI) : Prop where
  pi : PI X tg e wi
  lf : LfI wi p
theorem sql_eq {K : PySem.W.Frag} {H : Hp} {a : Addr} {vs xs : List V} (h : H a = some (.lst vs)) (k : ∀ o, K.lookup a = some o → H a = none) (q : SqL K H a xs) : xs = vs := by
  rcases q with (q | ⟨o, q⟩) | ⟨o, _, _, q, _⟩
  · rw [h] at q; cases q; rfl
  · rw [h] at q; cases q
  · rw [k _ q] at h; cases h
section
variable {X : Cx} {tg e a b c : Expr} {es : List Expr} {t ta tb tc : TE} {tt tu : TT} {tA : TA} {p pa pb pc : DE} {pt pu : DT} {pA : DA} {pos apos : Pos} {st : Stmt} {sts sts' : List Stmt} {ts tz : TS} {q r : DS}
/-- over a list or a tuple -/
def iSeq (K : PySem.W.Frag) (tl : TE) : TI := fun σ H R => tl σ H fun x H1 => ∃ a, x = .ref a ∧ (((∃ xs, SqL K H1 a xs) ∧ R (Itl K a) H1) ∨ ((∃ xs, SqT K H1 a xs) ∧ R (Itt K a) H1))
theorem pi_seq (hl : PE X e t) : PI X tg e (iSeq X.K t) := by
  refine ⟨fun pins s σ H R I h => thn (hl.run pins s σ H _ I h) fun v s1 ⟨x, H1, I1, r1, q1⟩ => ?_⟩
  have fp : ∀ c ∈ [s1.heap.objs.size], FpOk X pins H1 c := fun c hc => by
    obtain rfl := List.mem_singleton.mp hc
    exact I1.fpOk (Nat.le_refl _) (I1.hok.fresh (Nat.le_refl _))
  obtain ⟨a, rfl, q1⟩ := q1
  cases r1
  rcases q1 with ⟨⟨xs, hq⟩, q⟩ | ⟨⟨xs, hq⟩, q⟩
  · obtain ⟨its, _, pl, _⟩ := I1.list hq
    exact wpAny_pyIter_list pl.isList ⟨_, [s1.heap.objs.size], _, _, H1, rfl, I1.kept (t' := s1.toks) fun c o e => Heap.get?_push_of_some _ e, turn_list a _, ⟨_, Heap.get?_push_size _ rfl, rfl, rfl⟩, fp, q⟩
  · obtain ⟨its, _, pl, _⟩ := I1.tuple hq
    exact wpAny_pyIter_tuple (show s1.heap.IsTuple a its.toArray from pl) ⟨_, [s1.heap.objs.size], _, _, H1, rfl, I1.kept (t' := s1.toks) fun c o e => Heap.get?_push_of_some _ e, turn_tuple a _, ⟨_, Heap.get?_push_size _ rfl, rfl, rfl⟩, fp, q⟩
theorem walks_list {g : Gd} {K : PySem.W.Frag} {Hv : Hp} {a : Addr} {vs : List V} {xs : List PyData} (h : Hv a = some (.lst vs)) (hA : DqA Hv vs xs) : WalksD g (Itl K a) xs Hv := fun H w' s hd hn => by
  have h1 : H a = some (.lst vs) := (hw_some.mp (s _ _ h)).2
  refine ⟨fun i hi => ?_, fun i v H' hy hi => ?_, ⟨vs, SqL.of h1, by rw [hA.len]; exact Nat.le_refl _⟩⟩
  · have hi2 : i < vs.length := by rw [hA.len]; exact hi
    exact ⟨vs, vs[i], SqL.of h1, List.getElem?_eq_getElem hi2⟩
  · obtain ⟨rfl, hy⟩ := hy
    refine ⟨Same.refl _, fun d hd' _ => ?_⟩
    obtain ⟨v', e1, e2⟩ := (hA.same s).get hd'
    have e3 := hy vs (SqL.of h1)
    rw [e1] at e3
    cases e3
    exact e2
theorem walks_tup {g : Gd} {K : PySem.W.Frag} {Hv : Hp} {a : Addr} {vs : List V} {xs : List PyData} (h : Hv a = some (.tup vs)) (hA : DqA Hv vs xs) : WalksD g (Itt K a) xs Hv := fun H w' s hd hn => by
  have h1 : H a = some (.tup vs) := (hw_some.mp (s _ _ h)).2
  refine ⟨fun i hi => ?_, fun i v H' hy hi => ?_, ⟨vs, SqT.of h1, by rw [hA.len]; exact Nat.le_refl _⟩⟩
  · have hi2 : i < vs.length := by rw [hA.len]; exact hi
    exact ⟨vs, vs[i], SqT.of h1, List.getElem?_eq_getElem hi2⟩
  · obtain ⟨rfl, hy⟩ := hy
    refine ⟨Same.refl _, fun d hd' _ => ?_⟩
    obtain ⟨v', e1, e2⟩ := (hA.same s).get hd'
    have e3 := hy vs (SqT.of h1)
    rw [e1] at e3
    cases e3
    exact e2
/-- the items of data -/
def itemsOf : PyData → List PyData
  | .list xs => xs
  | .tuple xs => xs
  | _ => []
def isSeq : PyData → Bool
  | .list _ => true
  | .tuple _ => true
  | _ => false
def diSeq (p : DE) : DI := fun ss n Q => p ss n fun d n' => isSeq d = true ∧ canD ss d ∧ Q (itemsOf d) n'
theorem i_seq (ha : PL X a ta pa) : PLI X tg a (iSeq X.K ta) (diSeq pa) := ⟨pi_seq ha.pe, fun g H0 σ H ss n w R Q1 k h q => ha.lf g H0 σ H ss n w _ _ k h fun d n' v H' h1 e1 k1 r1 => by
  obtain ⟨h1, h2, h3⟩ := h1
  have r2 := k1.strong r1 h2
  cases r2 with
  | @lst a vs ds ha hA => exact ⟨a, rfl, .inl ⟨⟨vs, SqL.of (hsub ha)⟩, q _ _ _ _ h3 e1 k1 (walks_list ha hA)⟩⟩
  | @tup a vs ds ha hA => exact ⟨a, rfl, .inr ⟨⟨vs, SqT.of (hsub ha)⟩, q _ _ _ _ h3 e1 k1 (walks_tup ha hA)⟩⟩
  | _ => cases h1⟩
/-- over a new list -/
def diL (p : DL) : DI := fun ss n Q => p ss n fun xs n' => (NLA xs = true ∨ noOwn ss = true) ∧ Q xs n'
theorem i_L {pl : DL} (ha : PLL X a ta pl) : PLI X tg a (iSeq X.K ta) (diL pl) := ⟨pi_seq ha.pe, fun g H0 σ H ss n w R Q1 k h q => ha.lf g H0 σ H ss n w _ _ k h fun xs n' a vs H' h1 e1 k1 f1 g1 r1 =>
  ⟨a, rfl, .inl ⟨⟨vs, SqL.of g1⟩, q _ _ _ _ h1.2 e1 k1 (walks_list (hw_some.mpr ⟨k.free f1, g1⟩) (k1.strongA r1 h1.1))⟩⟩⟩
/-- over a range -/
def rangeD (lo : Int) (n : Nat) : List PyData := (List.range n).map fun (i : Nat) => PyData.int (lo + i)
theorem walks_range {g : Gd} {Hv : Hp} {lo : Int} {m : Nat} : WalksD g (Itr lo m) (rangeD lo m) Hv := fun H w' s hd hn => by
  have hl : (rangeD lo m).length = m := by simp [rangeD]
  refine ⟨fun i hi => by rw [hl] at hi; exact hi, fun i v H' hy hi => ?_, by rw [hl]; exact Nat.le_refl _⟩
  obtain ⟨rfl, rfl⟩ := hy
  refine ⟨Same.refl _, fun d hd' _ => ?_⟩
  rw [hl] at hi
  simp [rangeD, hi] at hd'
  subst hd'
  exact .int _
def diR1 (pA : DA) : DI := fun ss n Q => pA ss n fun as n' => onD as fun ds => ∃ j, ds = [.int j] ∧ -(2 ^ 62) ≤ j ∧ j < 2 ^ 62 ∧ Q (rangeD 0 j.toNat) n'
theorem i_range1 {p0 : Pos} (hg : Gl X "range") (hm : X.mg "range" = none) (ha : PLA X [a] tA pA) (hs : starEach [a] X.env = [(false, eval a X.env)] := by rfl) : PLI X tg (.Call (.Name "range" p0) [a] [] pos) (iRng1 tA) (diR1 pA) :=
  ⟨pi_range1 hg hm ha.pa hs, fun g H0 σ H ss n w R Q1 k h q => ha.lf g H0 σ H ss n w _ _ k h fun as n' vs H' h1 e1 k1 r1 => by
    obtain ⟨ds, e, j, rfl, h2, h3, h4⟩ := onD_some h1
    have r := datas_ok r1 e
    have ev := ints_of (ns := [j]) r
    subst ev
    exact ⟨j, rfl, h2, h3, q _ _ _ _ h4 e1 k1 walks_range⟩⟩
def diR2 (pA : DA) : DI := fun ss n Q => pA ss n fun as n' => onD as fun ds => ∃ i j, ds = [.int i, .int j] ∧ (-(2 ^ 62) ≤ i ∧ i < 2 ^ 62 ∧ -(2 ^ 62) ≤ j ∧ j < 2 ^ 62) ∧ Q (rangeD i (j - i).toNat) n'
theorem i_range2 {p0 : Pos} (hg : Gl X "range") (hm : X.mg "range" = none) (ha : PLA X [a, b] tA pA) (hs : starEach [a, b] X.env = [(false, eval a X.env), (false, eval b X.env)] := by rfl) (hs2 : starEach [b] X.env = [(false, eval b X.env)] := by rfl) :
    PLI X tg (.Call (.Name "range" p0) [a, b] [] pos) (iRng2 tA) (diR2 pA) :=
  ⟨pi_range2 hg hm ha.pa hs hs2, fun g H0 σ H ss n w R Q1 k h q => ha.lf g H0 σ H ss n w _ _ k h fun as n' vs H' h1 e1 k1 r1 => by
    obtain ⟨ds, e, i, j, rfl, h2, h4⟩ := onD_some h1
    have r := datas_ok r1 e
    have ev := ints_of (ns := [i, j]) r
    subst ev
    exact ⟨i, j, rfl, h2, q _ _ _ _ h4 e1 k1 walks_range⟩⟩
/-- over a text -/
def charsD (z : Str) : List PyData := z.cps.toList.map fun c => PyData.str ⟨#[c]⟩
theorem walks_str {g : Gd} {Hv : Hp} {z : Str} : WalksD g (Its z) (charsD z) Hv := fun H w' s hd hn => by
  have hl : (charsD z).length = z.cps.size := by simp [charsD]
  refine ⟨fun i hi => by rw [hl] at hi; exact hi, fun i v H' hy hi => ?_, by rw [hl]; exact Nat.le_refl _⟩
  obtain ⟨rfl, c, hc, rfl⟩ := hy
  refine ⟨Same.refl _, fun d hd' _ => ?_⟩
  have : z.cps.toList[i]? = some c := by simpa using hc
  unfold charsD at hd'
  rw [List.getElem?_map, this] at hd'
  cases hd'
  exact .str _
def diStr (p : DE) : DI := fun ss n Q => p ss n fun d n' => ∃ z, d = .str z ∧ Q (charsD z) n'
theorem i_str (ha : PL X a ta pa) : PLI X tg a (iStr ta) (diStr pa) := ⟨pi_str ha.pe, fun g H0 σ H ss n w R Q1 k h q => ha.lf g H0 σ H ss n w _ _ k h fun d n' v H' h1 e1 k1 r1 => by
  obtain ⟨z, rfl, h1⟩ := h1
  cases r1
  exact ⟨z, rfl, q _ _ _ _ h1 e1 k1 walks_str⟩⟩
/-- over zip of two lists or two tuples -/
def zipD (xs ys : List PyData) : List PyData := List.zipWith (fun x y => PyData.tuple [x, y]) xs ys
def diZip (pA : DA) : DI := fun ss n Q => pA ss n fun as n' => onD as fun ds => ∃ x y, ds = [x, y] ∧ canD ss x ∧ canD ss y ∧ ((∃ xs ys, x = .list xs ∧ y = .list ys ∧ Q (zipD xs ys) n') ∨ (∃ xs ys, x = .tuple xs ∧ y = .tuple ys ∧ Q (zipD xs ys) n'))
theorem zip_item {H : Hp} {w' : Addr → Option Nat} {vs us : List V} {xs ys : List PyData} (hA : DqA (hw w' H) vs xs) (hB : DqA (hw w' H) us ys) {i : Nat} {x y : V} {T : Addr} (hT : H T = none) (h1 : vs[i]? = some x) (h2 : us[i]? = some y) :
    Same H (upd H T (.tup [x, y])) ∧ (∀ d, (zipD xs ys)[i]? = some d → (∀ p, H p = none → w' p = none) → Dq (hw w' (upd H T (.tup [x, y]))) (.ref T) d) := by
  have s := same_new (.tup [x, y]) hT
  refine ⟨s, fun d hd fr => ?_⟩
  obtain ⟨dx, e1, r1⟩ := hA.getV h1
  obtain ⟨dy, e2, r2⟩ := hB.getV h2
  unfold zipD at hd
  rw [List.getElem?_zipWith, e1, e2] at hd
  cases hd
  have hs : Same (hw w' H) (hw w' (upd H T (.tup [x, y]))) := fun b o q => by
    obtain ⟨q1, q2⟩ := hw_some.mp q
    exact hw_some.mpr ⟨q1, s _ _ q2⟩
  exact .tup (hw_some.mpr ⟨fr T hT, upd_same⟩) (.cons (r1.same hs) (.cons (r2.same hs) .nil))
theorem i_zip {p0 tpos : Pos} {elts : List Expr} {kk : Nat} (hg : Gl X "zip") (hm : X.mg "zip" = none) (ha : PLA X [a, b] tA pA) (hs : starEach [a, b] X.env = (false, eval a X.env) :: starEach [b] X.env := by rfl) (hpl : (backTo pos (starEach [b] X.env)).any (·.1) = false := by rfl) :
    PLI X (.Tuple elts kk tpos) (.Call (.Name "zip" p0) [a, b] [] pos) (RZ.iZipA X.K tA) (diZip pA) := ⟨RZ.pi_zipA hg hm ha.pa hs hpl, fun g H0 σ H ss n w R Q1 k h q => ha.lf g H0 σ H ss n w _ _ k h fun as n' vs H' h1 e1 k1 r1 => by
  obtain ⟨ds, e, x, y, rfl, c1, c2, h1⟩ := onD_some h1
  have r := datas_ok r1 e
  cases r with
  | cons ra r =>
    cases r with
    | cons rb r =>
      cases r
      have s1 := k1.strong ra c1
      have s2 := k1.strong rb c2
      rcases h1 with ⟨xs, ys, rfl, rfl, h1⟩ | ⟨xs, ys, rfl, rfl, h1⟩
      · cases s1 with
        | @lst a us _ ha hA =>
          cases s2 with
          | @lst b zs _ hb hB =>
            refine ⟨a, b, us, zs, rfl, .inl ⟨SqL.of (hsub ha), SqL.of (hsub hb), q _ _ _ _ h1 e1 k1 fun H w' s hd hn => ?_⟩⟩
            have ga : H a = some (.lst us) := (hw_some.mp (s _ _ ha)).2
            have gb : H b = some (.lst zs) := (hw_some.mp (s _ _ hb)).2
            have hl : (zipD xs ys).length = min us.length zs.length := by rw [hA.len, hB.len]; simp [zipD]
            refine ⟨fun i hi => ?_, fun i v H2 hy hi => ?_, us, zs, SqL.of ga, SqL.of gb, by omega⟩
            · have h1 : i < us.length := by omega
              have h2 : i < zs.length := by omega
              exact ⟨us, zs, us[i], zs[i], SqL.of ga, SqL.of gb, List.getElem?_eq_getElem h1, List.getElem?_eq_getElem h2⟩
            · obtain ⟨T, x, y, rfl, hT, rfl, f1, f2⟩ := hy
              exact zip_item (hA.same s) (hB.same s) hT (f1 _ (SqL.of ga)) (f2 _ (SqL.of gb))
      · cases s1 with
        | @tup a us _ ha hA =>
          cases s2 with
          | @tup b zs _ hb hB =>
            refine ⟨a, b, us, zs, rfl, .inr ⟨SqT.of (hsub ha), SqT.of (hsub hb), q _ _ _ _ h1 e1 k1 fun H w' s hd hn => ?_⟩⟩
            have ga : H a = some (.tup us) := (hw_some.mp (s _ _ ha)).2
            have gb : H b = some (.tup zs) := (hw_some.mp (s _ _ hb)).2
            have hl : (zipD xs ys).length = min us.length zs.length := by rw [hA.len, hB.len]; simp [zipD]
            refine ⟨fun i hi => ?_, fun i v H2 hy hi => ?_, us, zs, SqT.of ga, SqT.of gb, by omega⟩
            · have h1 : i < us.length := by omega
              have h2 : i < zs.length := by omega
              exact ⟨us, zs, us[i], zs[i], SqT.of ga, SqT.of gb, List.getElem?_eq_getElem h1, List.getElem?_eq_getElem h2⟩
            · obtain ⟨T, x, y, rfl, hT, rfl, f1, f2⟩ := hy
              exact zip_item (hA.same s) (hB.same s) hT (f1 _ (SqT.of ga)) (f2 _ (SqT.of gb))⟩

/-! ### for, while -/
/-- I: what holds ahead of the i-th turn -/
def dFor (pi : DI) (pg : DG) (q : DS) : DS := fun DD ss n => pi ss n fun xs n1 => ∃ I : Nat → List S → Nat → Prop, I 0 ss n1 ∧
  (∀ i d ss' n', xs[i]? = some d → I i ss' n' → pg d ss' n' fun ss2 n2 => q { DD with nx := I (i + 1), ct := I (i + 1), bk := DD.nx } ss2 n2) ∧ ∀ ss' n', I xs.length ss' n' → DD.nx ss' n'
theorem lf_for {wi : TI} {pi : DI} {tg : TG} {is : List Nat} {pg : DG} (h1 : LfI wi pi) (h2 : LfG tg is pg) (h3 : LfS ts q) : LfS (tFor wi tg ts) (dFor pi pg q) := fun g H0 σ H ss n w D DD k h E => by
  refine h1 g H0 σ H ss n w _ _ k h fun xs n1 H1 J hI e1 k1 W => ?_
  obtain ⟨I, i0, step, done⟩ := hI
  refine ⟨fun i m σ' H' => m = xs.length - i ∧ i ≤ xs.length ∧ ∃ ss' n' w', Ok g H0 σ' H' ss' n' w' ∧ Same (hw w H1) (hw w' H') ∧ I i ss' n', ⟨_, rfl, Nat.zero_le _, ss, n1, w, k1, Same.refl _, i0⟩, fun i m σ' H' ⟨hm, hi, ss', n', w', k', s', hI⟩ => ?_⟩
  obtain ⟨go, yld, stop⟩ := W H' w' s' k'.wdk (ne_dk k'.deck)
  have s0 : Same (hw w H) (hw w' H') := (hw_ed k.wdk e1).trans s'
  by_cases hlt : i < xs.length
  · refine .inr ⟨go i hlt, fun σ2 H2 => ∃ ss2 n2 w2, Ok g H0 σ2 H2 ss2 n2 w2 ∧ Same (hw w H1) (hw w2 H2) ∧ I (i + 1) ss2 n2, fun σ2 H2 z => ⟨xs.length - (i + 1), by omega, rfl, hlt, z⟩, fun x H2 hy => ?_⟩
    obtain ⟨sm, item⟩ := yld i x H2 hy hlt
    have k2 := k'.same sm
    have r2 := item _ (List.getElem?_eq_getElem hlt) fun p hp => k'.free hp
    have sh : Same (hw w' H') (hw w' H2) := hw_ed k'.wdk (Ed.of sm)
    refine h2 g H0 σ' H2 ss' n' w' x _ _ _ k2 r2 (step i _ ss' n' (List.getElem?_eq_getElem hlt) hI) fun σ3 ss3 w3 k3 s3 _ hq => ?_
    refine h3 g H0 σ3 H2 ss3 n' w3 _ _ k3 hq ?_
    have back : Nx g H0 (hw w3 H2) (I (i + 1)) (fun σ2 H2 => ∃ ss2 n2 w2, Ok g H0 σ2 H2 ss2 n2 w2 ∧ Same (hw w H1) (hw w2 H2) ∧ I (i + 1) ss2 n2) := fun σ4 H4 ss4 n4 w4 k4 s4 h4 => ⟨ss4, n4, w4, k4, ((s'.trans sh).trans s3).trans s4, h4⟩
    exact ⟨back, E.nx.mono (((s0.trans sh).trans s3)), back, E.rt, E.rl, E.rx⟩
  · have e : i = xs.length := by omega
    subst e
    exact .inl ⟨stop, E.nx σ' H' ss' n' w' k' s0 (done ss' n' hI)⟩
theorem s_for {wi : TI} {pi : DI} {gt : TG} {is : List Nat} {pg : DG} (hp : PassesOwn (model X.prog X.w) X.A X.env X.xe) (hc : X.calm = true) (h1 : PLI X tg e wi pi) (h2 : PLTg X tg gt is pg) (h3 : PLB X sts ts q) (hs : ∀ x, foldedSetIterable e X.env x = pure x := by intro _; rfl) :
    PLS X (.For tg e sts [] pos) (tFor wi gt ts) (dFor pi pg q) := ⟨ps_for hp hc h1.pi h2.pg h3.ps hs, lf_for h1.lf h2.lf h3.lf⟩
def dWhile (pt : DT) (q : DS) : DS := fun DD ss n => ∃ I : Nat → List S → Nat → Prop, (∃ m, I m ss n) ∧ ∀ m ss' n', I m ss' n' → pt ss' n' fun b n2 =>
  if b = true then q { DD with nx := fun ss2 n3 => ∃ m', m' < m ∧ I m' ss2 n3, ct := fun ss2 n3 => ∃ m', m' < m ∧ I m' ss2 n3, bk := DD.nx } ss' n2 else DD.nx ss' n2
theorem s_while (hp : PassesOwn (model X.prog X.w) X.A X.env X.xe) (hc : PLT X c tt pt) (hb : PLB X sts ts q) : PLS X (.While c sts [] pos) (tWhile tt ts) (dWhile pt q) := ⟨ps_while hp hc.pt hb.ps, fun g H0 σ H ss n w D DD k h E => by
  obtain ⟨I, ⟨m0, i0⟩, step⟩ := h
  refine ⟨fun m σ' H' => ∃ ss' n' w', Ok g H0 σ' H' ss' n' w' ∧ Same (hw w H) (hw w' H') ∧ I m ss' n', ⟨m0, ss, n, w, k, Same.refl _, i0⟩, fun m σ' H' ⟨ss', n', w', k', s', hI⟩ => ?_⟩
  refine hc.lf g H0 σ' H' ss' n' w' _ _ k' (step m ss' n' hI) fun b n2 H2 h2 e2 k2 => ?_
  have s2 := s'.trans (hw_ed k'.wdk e2)
  cases b with
  | true =>
    rw [if_pos rfl] at h2 ⊢
    refine ⟨fun σ3 H3 => ∃ m', m' < m ∧ ∃ ss3 n3 w3, Ok g H0 σ3 H3 ss3 n3 w3 ∧ Same (hw w H) (hw w3 H3) ∧ I m' ss3 n3, fun σ3 H3 z => z, hb.lf g H0 σ' H2 ss' n2 w' _ _ k2 h2 ?_⟩
    have back : Nx g H0 (hw w' H2) (fun ss2 n3 => ∃ m', m' < m ∧ I m' ss2 n3) (fun σ3 H3 => ∃ m', m' < m ∧ ∃ ss3 n3 w3, Ok g H0 σ3 H3 ss3 n3 w3 ∧ Same (hw w H) (hw w3 H3) ∧ I m' ss3 n3) :=
      fun σ4 H4 ss4 n4 w4 k4 s4 ⟨m', hm, h4⟩ => ⟨m', hm, ss4, n4, w4, k4, s2.trans s4, h4⟩
    exact ⟨back, E.nx.mono s2, back, E.rt, E.rl, E.rx⟩
  | false =>
    rw [if_neg Bool.false_ne_true] at h2 ⊢
    exact E.nx σ' H2 ss' n2 w' k2 s2 h2⟩

/-! ### comprehensions -/
def wipeS (ss : List S) : List Nat → List S
  | [] => ss
  | v :: vs => (wipeS ss vs).set v .un
def okW (ss : List S) (vs : List Nat) : Bool := vs.all fun i => !(match ss[i]? with | some (.own _) => true | _ => false)
theorem wipeS_get {ss : List S} {i : Nat} {s : S} : ∀ {vs : List Nat}, (wipeS ss vs)[i]? = some s → (s = .un) ∨ (ss[i]? = some s ∧ i ∉ vs)
  | [], h => .inr ⟨h, by simp⟩
  | v :: vs, h => by
    unfold wipeS at h
    by_cases e : v = i
    · subst e
      by_cases hl : v < (wipeS ss vs).length
      · rw [List.getElem?_set_self hl] at h
        cases h
        exact .inl rfl
      · rw [List.getElem?_eq_none (by rw [List.length_set]; omega)] at h
        cases h
    · rw [List.getElem?_set_ne e] at h
      rcases wipeS_get h with h | ⟨h, h2⟩
      · exact .inl h
      · exact .inr ⟨h, by simp only [List.mem_cons, not_or]; exact ⟨fun z => e z.symm, h2⟩⟩
theorem wipeS_own {ss : List S} {i : Nat} {xs : List PyData} : ∀ {vs : List Nat}, ss[i]? = some (.own xs) → i ∉ vs → (wipeS ss vs)[i]? = some (.own xs)
  | [], h, _ => h
  | v :: vs, h, hv => by
    unfold wipeS
    rw [List.getElem?_set_ne fun e => hv (by rw [← e]; exact List.mem_cons_self)]
    exact wipeS_own h fun z => hv (List.mem_cons_of_mem _ z)
theorem wipe_get {σ : L2.St} {i : Nat} : ∀ {vs : List Nat}, i ∉ vs → (wipe σ vs)[i]? = σ[i]?
  | [], _ => rfl
  | v :: vs, h => by
    unfold wipe
    rw [List.getElem?_set_ne fun e => h (by rw [← e]; exact List.mem_cons_self)]
    exact wipe_get fun z => h (List.mem_cons_of_mem _ z)
theorem wipeS_len (ss : List S) : ∀ vs : List Nat, (wipeS ss vs).length = ss.length
  | [] => rfl
  | v :: vs => by unfold wipeS; rw [List.length_set, wipeS_len ss vs]
theorem Ok.wiped {g : Gd} {H0 H : Hp} {σ : L2.St} {ss : List S} {n : Nat} {w : Addr → Option Nat} (k : Ok g H0 σ H ss n w) {vs : List Nat} (h : okW ss vs = true) : Ok g H0 (wipe σ vs) H (wipeS ss vs) n w := by
  refine ⟨by rw [wipeS_len, wipe_length, k.len], k.ed, k.deck, k.ext, k.hx, fun a ha => ?_, fun i s hs => ?_⟩
  · rcases k.hid a ha with e | ⟨f1, f2, j, xs, h1, h2, h3⟩
    · exact .inl e
    · have hj : j ∉ vs := fun z => by
        have := List.all_eq_true.mp h j z
        rw [h2] at this
        cases this
      exact .inr ⟨f1, f2, j, xs, h1, wipeS_own h2 hj, by rw [wipe_get hj]; exact h3⟩
  · rcases wipeS_get hs with e | ⟨hs, hi⟩
    · subst e
      trivial
    · rw [wipe_get hi]
      exact k.sl i s hs
/-- back from a comprehension's block -/
theorem Ok.unwiped {g : Gd} {H0 H H' : Hp} {σ : L2.St} {ss : List S} {n n' : Nat} {w : Addr → Option Nat} (k : Ok g H0 σ H ss n w) (e : Ed g.dk H H') (d : Deck g n' H') : Ok g H0 σ H' ss n' w := k.step e d
def dLc (pi : DI) (pg : DG) (pt : DT) (pe : DE) (vs : List Nat) : DL := fun ss n Q => okW ss vs = true ∧ pi ss n fun xs n1 => ∃ I : Nat → List PyData → Nat → Prop, I 0 [] n1 ∧
  (∀ i d acc n', xs[i]? = some d → I i acc n' → pg d (wipeS ss vs) n' fun ss2 n2 => pt ss2 n2 fun b n3 => if b = true then pe ss2 n3 fun y n4 => acc.length < sizeLine ∧ NL y = true ∧ I (i + 1) (acc ++ [y]) n4 else I (i + 1) acc n3) ∧ ∀ acc n', I xs.length acc n' → Q acc n'
/-- J yields the data xs as long as all but the deck stands (within an expression) -/
def WalksC (g : Gd) (J : It) (xs : List PyData) (H1 : Hp) (w : Addr → Option Nat) : Prop := ∀ H, Ed g.dk H1 H → H g.dk ≠ none →
  (∀ i, i < xs.length → J.go i H) ∧ (∀ i v H', J.yld i H v H' → i < xs.length → Same H H' ∧ (∀ d, xs[i]? = some d → (∀ p, H p = none → w p = none) → Dq (hw w H') v d)) ∧ J.stop xs.length H
def LfIc (wi : TI) (p : DI) : Prop := ∀ (g : Gd) (H0 : Hp) (σ : L2.St) (H : Hp) (ss : List S) (n : Nat) (w : Addr → Option Nat) (R : It → Hp → Prop) (Q1 : List PyData → Nat → Prop), Ok g H0 σ H ss n w → p ss n Q1 →
  (∀ xs n' H' J, Q1 xs n' → Ed g.dk H H' → Ok g H0 σ H' ss n' w → WalksC g J xs H' w → R J H') → wi σ H R
structure PLIc (X : Cx) (tg e : Expr) (wi : TI) (p : DI) : Prop where
  pi : PI X tg e wi
  lf : LfIc wi p
theorem ic_ {wi : TI} {pi : DI} (h : PLI X tg e wi pi) : PLIc X tg e wi pi := ⟨h.pi, fun g H0 σ H ss n w R Q1 k hp q => h.lf g H0 σ H ss n w R Q1 k hp fun xs n' H' J h1 e1 k1 W => q xs n' H' J h1 e1 k1 fun H2 e2 hn => W H2 w (hw_ed k1.wdk e2) k1.wdk hn⟩
/-- over a list of the def's own -/
def diOwn (i : Nat) : DI := fun ss n Q => ∃ xs, ss[i]? = some (.own xs) ∧ Q xs n
theorem ic_own {i : Nat} {x : Str} {p1 : Pos} {K : PySem.W.Frag} (hK : X.K = K) (ho : PL X (.Name x p1) (tVar i) (dVar i)) : PLIc X tg (.Name x p1) (iSeq K (tVar i)) (diOwn i) := by
  subst hK
  refine ⟨pi_seq ho.pe, fun g H0 σ H ss n w R Q1 k hp q => ?_⟩
  obtain ⟨xs, hx, hp⟩ := hp
  obtain ⟨a, vs, h1, h2, h3, h4, h5⟩ := k.sl i _ hx
  refine ⟨_, h1, a, rfl, .inl ⟨⟨vs, SqL.of h4⟩, q xs n H _ hp (Ed.refl _ _) k fun H2 e2 hn => ?_⟩⟩
  have g1 : H2 a = some (.lst vs) := e2 _ _ (Gd.ne h3) h4
  have hA := h5.same (hw_ed k.wdk e2)
  refine ⟨fun j hj => ?_, fun j v H3 hy hj => ?_, ⟨vs, SqL.of g1, by rw [h5.len]; exact Nat.le_refl _⟩⟩
  · have hj2 : j < vs.length := by rw [h5.len]; exact hj
    exact ⟨vs, vs[j], SqL.of g1, List.getElem?_eq_getElem hj2⟩
  · obtain ⟨rfl, hy⟩ := hy
    refine ⟨Same.refl _, fun d hd _ => ?_⟩
    obtain ⟨v', f1, f2⟩ := hA.get hd
    have f3 := hy vs (SqL.of g1)
    rw [f1] at f3
    cases f3
    exact f2
theorem lf_lc {wi : TI} {pi : DI} {tg : TG} {is : List Nat} {pg : DG} {vs : List Nat} (h1 : LfIc wi pi) (h2 : LfG tg is pg) (h3 : LfT tt pt) (h4 : Lf t p) (hv : ∀ i ∈ is, i ∈ vs) : LfL (tLc wi tg tt t vs) (dLc pi pg pt p vs) := fun g H0 σ H ss n w Q Q1 k h q => by
  obtain ⟨ow, h⟩ := h
  refine h1 g H0 σ H ss n w _ _ k h fun xs n1 H1 J hI e1 k1 W => ?_
  obtain ⟨I, i0, step, done⟩ := hI
  intro Dl hD
  have hDdk : Dl ≠ g.dk := ne_free k1.deck hD
  refine ⟨fun i m H' => m = xs.length - i ∧ i ≤ xs.length ∧ ∃ acc n' us, Ed g.dk H1 H' ∧ Deck g n' H' ∧ H' Dl = some (.lst us) ∧ DqA (hw g.h H') us acc ∧ NLA acc = true ∧ I i acc n', ⟨_, rfl, Nat.zero_le _, [], n1, [], Ed.of (same_new _ hD), k1.deck.same (same_new _ hD), upd_same, .nil, rfl, i0⟩,
    fun i m H' ⟨hm, hi, acc, n', us, e', d', hDl, hA, hN, hI⟩ => ?_⟩
  have k' := k1.step e' d'
  obtain ⟨go, yld, stop⟩ := W H' e' (ne_dk d')
  by_cases hlt : i < xs.length
  · refine .inr ⟨go i hlt, fun H2 => ∃ acc n' us, Ed g.dk H1 H2 ∧ Deck g n' H2 ∧ H2 Dl = some (.lst us) ∧ DqA (hw g.h H2) us acc ∧ NLA acc = true ∧ I (i + 1) acc n', fun H2 z => ⟨xs.length - (i + 1), by omega, rfl, hlt, z⟩, fun x H2 hy => ?_⟩
    obtain ⟨sm, item⟩ := yld i x H2 hy hlt
    have k2 := (k'.same sm).wiped ow
    have r2 := item _ (List.getElem?_eq_getElem hlt) fun p hp => k'.free hp
    refine h2 g H0 (wipe σ vs) H2 (wipeS ss vs) n' w x _ _ _ k2 r2 (step i _ acc n' (List.getElem?_eq_getElem hlt) hI) fun σ3 ss3 w3 k3 s3 f3 hq => ?_
    have ww : wipe (wipe σ vs) vs = wipe σ vs := by
      have : ∀ us : List Nat, (∀ i ∈ us, i ∈ vs) → wipe (wipe σ us) vs = wipe σ vs := fun us => by
        induction us with
        | nil => exact fun _ => rfl
        | cons u r ih =>
          intro hu
          show wipe ((wipe σ r).set u none) vs = wipe σ vs
          rw [wipe_set (hu u List.mem_cons_self), ih fun i hi => hu i (List.mem_cons_of_mem _ hi)]
      exact this vs fun i hi => hi
    refine ⟨(f3 vs hv).trans ww, h3 g H0 σ3 H2 ss3 n' w3 _ _ k3 hq fun b n3 H3 hb e3 k3' => ?_⟩
    have e13 : Ed g.dk H1 H3 := (e'.trans (Ed.of sm)).trans e3
    have hD3 : H3 Dl = some (.lst us) := e3 _ _ hDdk (sm _ _ hDl)
    have hA3 := hA.same (h0_ed ((Ed.of sm).trans e3))
    cases b with
    | true =>
      rw [if_pos rfl] at hb ⊢
      refine h4 g H0 σ3 H3 ss3 n3 w3 _ _ k3' hb fun y n4 v H4 hy4 e4 k4 r4 => ?_
      have hD4 : H4 Dl = some (.lst us) := e4 _ _ hDdk hD3
      have hA4 := (hA3.same (h0_ed e4)).app (.cons r4 .nil)
      have hN2 : NLA (acc ++ [y]) = true := NLA_all.mpr fun z hz => by
        rcases List.mem_append.mp hz with hz | hz
        · exact NLA_all.mp hN z hz
        · rw [List.mem_singleton.mp hz]
          exact hy4.2.1
      have e14 : Ed g.dk H1 (upd H4 Dl (.lst (us ++ [v]))) := fun b o hb qb => by
        have : b ≠ Dl := fun z => by rw [z, hD] at qb; cases qb
        rw [upd_ne this]
        exact (e13.trans e4) b o hb qb
      have hcD : g.c ≠ Dl := fun z => by
        obtain ⟨_, _, z2, _⟩ := k1.deck
        rw [z, hD] at z2
        cases z2
      refine ⟨us, hD4, by rw [hA3.len]; exact hy4.1, acc ++ [y], n4, us ++ [v], e14, ?_, upd_same, ?_, hN2, hy4.2.2⟩
      · obtain ⟨d1, d2, d3, pp, qq, d4, d5⟩ := k4.deck
        exact ⟨d1, d2, by rw [upd_ne hcD]; exact d3, pp, qq, d4, by rw [upd_ne (Ne.symm hDdk)]; exact d5⟩
      · have h5 := hA4.nl (w' := own1 g.h Dl 0) (fun b zs hb => by
          unfold own1
          by_cases e : b = Dl
          · rw [e, hD4] at hb
            cases hb
          · rw [if_neg e]
            cases z : g.h b with
            | none => rfl
            | some x =>
              obtain ⟨us, z2⟩ := k4.hd b (by rw [z]; rfl)
              rw [hb] at z2
              cases z2) hN2
        refine h5.same fun b o qb => ?_
        obtain ⟨q1, q2⟩ := hw_some.mp qb
        have e : b ≠ Dl := fun z => by
          rw [z] at q1
          unfold own1 at q1
          rw [if_pos rfl] at q1
          cases q1
        unfold own1 at q1
        rw [if_neg e] at q1
        exact hw_some.mpr ⟨q1, by rw [upd_ne e]; exact q2⟩
    | false =>
      rw [if_neg Bool.false_ne_true] at hb ⊢
      exact ⟨acc, n3, us, e13, k3'.deck, hD3, hA3, hN, hb⟩
  · have e : i = xs.length := by omega
    subst e
    exact .inl ⟨stop, q acc n' Dl us H' (done acc n' hI) (e1.trans e') k' (free_of e1 (ne_dk k1.deck) hD) hDl hA⟩
end
end Ev

namespace Ev
open PySem PySem.Spec PyProof.Rows L2
section
variable {X : Cx} {tg e a b c iter elt : Expr} {es ifs : List Expr} {t ta tb tc te : TE} {tt tu : TT} {tA : TA} {p pa pb pc pe : DE} {pt pu : DT} {pA : DA} {pos apos : Pos} {st : Stmt} {sts sts' : List Stmt} {ts tz : TS} {q r : DS}
structure PLTs (X : Cx) (ifs : List Expr) (t : TT) (p : DT) : Prop where
  pt : PTs X ifs t
  lf : LfT t p
def dYes : DT := fun _ n Q => Q true n
theorem ts_nil : PLTs X [] tYes dYes := ⟨pts_nil, fun g H0 σ H ss n w Q Q1 k h q => q _ _ _ h (Ed.refl _ _) k⟩
theorem ts_one (h : PLT X c tt pt) : PLTs X [c] tt pt := ⟨pts_one h.pt, h.lf⟩
theorem f_lc {scope : Scope} {own : List (Str × Nat)} {wi : TI} {pi : DI} {gt : TG} {is : List Nat} {pg : DG} (hc : X.calm = true) (hN : X.N.Nodup) (hi : PLIc X tg iter wi pi) (ok : BlkOk X.N X.env.scope scope own)
    (hg : ∀ (s : Shared) (H : Hp) (C : Addr) (cl : List (Str × Addr)) (fp : List Addr), PLTg (X.blk s H scope (compEnvC scope cl C X.env) fp) tg gt is pg) (ht : ∀ (s : Shared) (H : Hp) (C : Addr) (cl : List (Str × Addr)) (fp : List Addr), PLTs (X.blk s H scope (compEnvC scope cl C X.env) fp) ifs tt pt)
    (he : ∀ (s : Shared) (H : Hp) (C : Addr) (cl : List (Str × Addr)) (fp : List Addr), PL (X.blk s H scope (compEnvC scope cl C X.env) fp) elt te pe) (hv : ∀ i ∈ is, i ∈ own.map (·.2) := by decide) (hs : ∀ x, foldedSetIterable iter X.env x = pure x := by intro _; rfl) :
    PLL X (.ListComp elt [⟨tg, iter, ifs, 0⟩] scope pos) (tLc wi gt tt te (own.map (·.2))) (dLc pi pg pt pe (own.map (·.2))) :=
  ⟨pe_lc hc hN hi.pi ok (fun s H C cl fp => (hg s H C cl fp).pg) (fun s H C cl fp => (ht s H C cl fp).pt) (fun s H C cl fp => (he s H C cl fp).pe) hs,
    lf_lc hi.lf (hg X.s_0 X.H_0 0 [] []).lf (ht X.s_0 X.H_0 0 [] []).lf (he X.s_0 X.H_0 0 [] []).lf hv⟩
theorem s_setLc {i : Nat} {y : Str} {py spos : Pos} {scope : Scope} {own : List (Str × Nat)} {wi : TI} {pi : DI} {gt : TG} {is : List Nat} {pg : DG} (hc : X.calm = true) (hN : X.N.Nodup) (hy : X.N[i]? = some y) (hyl : X.env.scope.names.lookup y = some .local)
    (hi : PLIc X tg iter wi pi) (ok : BlkOk X.N X.env.scope scope own)
    (hg : ∀ (s : Shared) (H : Hp) (C : Addr) (cl : List (Str × Addr)) (fp : List Addr), PLTg (X.blk s H scope (compEnvC scope cl C X.env) fp) tg gt is pg) (ht : ∀ (s : Shared) (H : Hp) (C : Addr) (cl : List (Str × Addr)) (fp : List Addr), PLTs (X.blk s H scope (compEnvC scope cl C X.env) fp) ifs tt pt)
    (he : ∀ (s : Shared) (H : Hp) (C : Addr) (cl : List (Str × Addr)) (fp : List Addr), PL (X.blk s H scope (compEnvC scope cl C X.env) fp) elt te pe) (hsw : swapsWith (.ListComp elt [⟨tg, iter, ifs, 0⟩] scope pos) (some (.Name y py)) spos.line X.env = pure true)
    (hv : ∀ i ∈ is, i ∈ own.map (·.2) := by decide) (hs : ∀ x, foldedSetIterable iter X.env x = pure x := by intro _; rfl) :
    PLS X (.Assign [.Name y py] (.ListComp elt [⟨tg, iter, ifs, 0⟩] scope pos) spos) (tAsg (tLc wi gt tt te (own.map (·.2))) (gName i)) (dSetL i (dLc pi pg pt pe (own.map (·.2)))) :=
  ⟨ps_setLc hc hN hy hyl hsw hi.pi ok (fun s H C cl fp => (hg s H C cl fp).pg) (fun s H C cl fp => (ht s H C cl fp).pt) (fun s H C cl fp => (he s H C cl fp).pe) hs,
    lf_setL (lf_lc hi.lf (hg X.s_0 X.H_0 0 [] []).lf (ht X.s_0 X.H_0 0 [] []).lf (he X.s_0 X.H_0 0 [] []).lf hv)⟩

/-! ### repr -/
def shows (d : PyData) : Prop := d.showable = true ∧ d.hasDict = false ∧ d.depth ≤ 100 ∧ d.shown.length ≤ sizeLine
def qRepr : List PyData → DP := fun ds Q => match ds with
  | [d] => shows d ∧ Q (.str d.shown)
  | _ => False
def rRepr (K : PySem.W.Frag) : List V → Hp → VK → Prop := fun xs H Q => ∃ v d, xs = [v] ∧ Dp K H v d ∧ shows d ∧ Q (.str d.shown) H
theorem call_reprD (hg : X.A.guards = some []) (hu : X.A.units + 200 < cLine) : CallR X (.builtin "repr") (rRepr X.K) := by
  intro pins s σ H xs us Q I r h
  obtain ⟨v, d, rfl, hd, ⟨s1, s2, s3, s4⟩, q⟩ := h
  obtain ⟨u, rfl, r2⟩ : ∃ u, us = [u] ∧ RelV v u := by
    cases r with
    | cons a b => cases b; exact ⟨_, rfl, a⟩
  have e : ∀ {y : V}, y = v → RelV y u := fun e => by rw [e]; exact r2
  cases hd with
  | non =>
    obtain rfl : u = Value.none := e rfl
    exact PySem.P.repr_of_none ⟨.str _, H, I.tok _, ⟨_, rfl⟩, q⟩
  | bl b =>
    obtain rfl : u = Value.bool b := e rfl
    exact PySem.P.repr_of_bool ⟨.str _, H, I.tok _, ⟨_, rfl⟩, q⟩
  | int i =>
    obtain ⟨t, rfl⟩ : ∃ t, u = Value.int i t := e rfl
    exact PySem.P.repr_of_int (by simpa [PyData.showable] using s1) ⟨.str _, H, I.tok _, ⟨_, rfl⟩, q⟩
  | str x =>
    obtain ⟨t, rfl⟩ : ∃ t, u = Value.str x t := e rfl
    exact PySem.P.repr_of_str ⟨.str _, H, I.tok _, ⟨_, rfl⟩, q⟩ s4
  | @lst a xs ds h1 h2 =>
    obtain rfl : u = Value.ref a := e rfl
    obtain ⟨as, rd⟩ := Dp.reads I _ _ _ (.lst h1 h2) rfl
    exact PySem.repr_of_reads' rd s1 (PySem.PyData.noDict_hsm s2) hg (by omega) (fun _ _ e => e) (fun h' u tk hk => ⟨.str _, H, I.kept hk, ⟨_, rfl⟩, q⟩) s4
  | @tup a xs ds h1 h2 =>
    obtain rfl : u = Value.ref a := e rfl
    obtain ⟨as, rd⟩ := Dp.reads I _ _ _ (.tup h1 h2) rfl
    exact PySem.repr_of_reads' rd s1 (PySem.PyData.noDict_hsm s2) hg (by omega) (fun _ _ e => e) (fun h' u tk hk => ⟨.str _, H, I.kept hk, ⟨_, rfl⟩, q⟩) s4
theorem b_repr (hg : X.A.guards = some []) (hu : X.A.units + 200 < cLine) : CB X (.builtin "repr") (rRepr X.K) qRepr := ⟨call_reprD hg hu, fun hh H xs ds Q Q1 hd h hq q => by
  cases h with
  | nil => exact hq.elim
  | @cons v vs d ds h r =>
    cases r with
    | cons _ _ => exact hq.elim
    | nil => exact ⟨v, d, rfl, (h.same hw_sub).dp, hq.1, q _ _ _ hq.2 (Same.refl H) (.str _)⟩⟩
theorem Room.u200 {k : Nat} {A : Around} (r : Room k A) : A.units + 200 < cLine := by have := r.un; omega

/-! ### any, all of ints and bools -/
def tru1 : PyData → Bool
  | .int i => i != 0
  | .bool b => b
  | _ => false
def isSc : PyData → Bool
  | .int _ => true
  | .bool _ => true
  | _ => false
theorem truth_sc {prog : Program} {w : World} {A : Around} {H : Hp} {vs : List V} {ds : List PyData} {its : List Value} (hA : DqA H vs ds) (hv : Vals vs its) (hs : ds.all isSc = true) :
    TruthOf prog w A (fun i v => its.toArray[i]? = some v) (fun i => (ds.map tru1).getD i false) := fun i v s Q E hv' hq => by
  have hv' : its[i]? = some v := by simpa using hv'
  have hi : i < vs.length := by
    rw [hv.length]
    exact (List.getElem?_eq_some_iff.mp hv').1
  obtain ⟨d, e1, r1⟩ := hA.getV (List.getElem?_eq_getElem hi)
  obtain ⟨u, e2, r2⟩ := hv.get (List.getElem?_eq_getElem hi)
  rw [hv'] at e2
  cases e2
  have hd : (ds.map tru1).getD i false = tru1 d := by rw [List.getD_eq_getElem?_getD, List.getElem?_map, e1] <;> rfl
  have hsd : isSc d = true := List.all_eq_true.mp hs d (List.mem_of_getElem? e1)
  have hq : Q ((ds.map tru1).getD i false) s := hq
  rw [hd] at hq
  revert r1 r2
  generalize vs[i] = y
  intro r1 r2
  cases r1 with
  | int j => obtain ⟨t, rfl⟩ := r2; exact PySem.P.truthy_int hq
  | bl k => cases r2; exact wpAny_truthy_bool hq
  | _ => cases hsd
def rAnyD (K : PySem.W.Frag) : List V → Hp → VK → Prop := fun vs H Q => ∃ (a : Addr) (us : List V) (ds : List PyData) (H1 : Hp), vs = [V.ref a] ∧ (SqL K H a us ∨ SqT K H a us) ∧ DqA H1 us ds ∧ ds.all isSc = true ∧ Q (.bl (ds.any tru1)) H
theorem any_range' (ds : List PyData) : (List.range ds.length).any (fun i => (ds.map tru1).getD i false) = ds.any tru1 := by
  have h := any_range (ds.map tru1)
  rw [List.length_map, List.any_map] at h
  exact h
theorem iter_tup {prog : Program} {w : World} {A : Around} {E : Value → Shared → Prop} {s : Shared} {l : Addr} {items : Array Value} {Q : Value → Shared → Prop} (hl : s.heap.IsTuple l items)
    (h : ∀ s₂ : Shared, s₂ = { s with heap := s.heap.push { cls := .type "tuple_iterator", data := .fields #[.ref l, .int 0 0] } } → (s₂.heap.IsTupleIter s.heap.objs.size l 0 ∧ s₂.heap.IsTuple l items) → l ≠ s.heap.objs.size → Q (.ref s.heap.objs.size) s₂) : wpAny (model prog w) A (pyIter (.ref l)) Q E s := by
  have hlt : l < s.heap.objs.size := by obtain ⟨_, e, _⟩ := hl; exact Heap.lt_size e
  refine wpAny_pyIter_tuple hl (h _ rfl ⟨⟨_, Heap.get?_push_size _ rfl, rfl, rfl⟩, ?_⟩ (Nat.ne_of_lt hlt))
  exact hl.push _
theorem call_anyD (hc : X.calm = true) : CallR X (.builtin "any") (rAnyD X.K) := by
  intro pins s σ H vs us Q I r h
  obtain ⟨a, zs, ds, H1, rfl, hs, hA, hsc, q⟩ := h
  rw [Vals.ref1 r]
  have fin : ∀ its : List Value, Vals zs its → ∀ (h' : Heap) (tk : Nat) (l : List Addr), (∀ b o, b ∉ l → (s.heap.push { cls := .type "list_iterator", data := .fields #[.ref a, .int 0 0] }).get? b = some o → h'.get? b = some o) → True := fun _ _ _ _ _ _ => trivial
  rcases hs with hs | hs
  · obtain ⟨its, rv, hl, _⟩ := I.list hs
    refine call_any_walk (iter_any hl.isList fun s₂ e2 st hne => ?_)
    subst e2
    refine ⟨_, _, _, _, _, _, _, rfl, Walks.list (A := X.A.in1) (I.ok.hd hc) _ a hne its.toArray, st, truth_sc hA rv hsc, fun h' tk hk => ?_⟩
    refine ⟨.bl _, H, I.kept fun b o eo => hk b o (fun hmem => ?_) (Heap.get?_push_of_some _ eo), ?_, q⟩
    · rcases List.mem_cons.mp hmem with e1 | hmem
      · exact absurd (e1 ▸ Heap.lt_size eo) (Nat.lt_irrefl _)
      · cases hmem
    · show Value.bool _ = Value.bool _
      rw [← any_range', List.size_toArray, ← rv.length, hA.len]
  · obtain ⟨its, rv, hl, _⟩ := I.tuple hs
    refine call_any_walk (iter_tup (show s.heap.IsTuple a its.toArray from hl) fun s₂ e2 st hne => ?_)
    subst e2
    refine ⟨_, _, _, _, _, _, _, rfl, Walks.tuple (A := X.A.in1) (I.ok.hd hc) _ a hne its.toArray, st, truth_sc hA rv hsc, fun h' tk hk => ?_⟩
    refine ⟨.bl _, H, I.kept fun b o eo => hk b o (fun hmem => ?_) (Heap.get?_push_of_some _ eo), ?_, q⟩
    · rcases List.mem_cons.mp hmem with e1 | hmem
      · exact absurd (e1 ▸ Heap.lt_size eo) (Nat.lt_irrefl _)
      · cases hmem
    · show Value.bool _ = Value.bool _
      rw [← any_range', List.size_toArray, ← rv.length, hA.len]
def qAny : List PyData → DP := fun ds Q => match ds with
  | [.list xs] => xs.all isSc = true ∧ Q (.bool (xs.any tru1))
  | [.tuple xs] => xs.all isSc = true ∧ Q (.bool (xs.any tru1))
  | _ => False
theorem b_any (hc : X.calm = true) : CB X (.builtin "any") (rAnyD X.K) qAny := ⟨call_anyD hc, fun hh H xs ds Q Q1 hd h hq q => by
  cases h with
  | nil => exact hq.elim
  | cons h r =>
    cases r with
    | cons _ _ => cases h <;> exact hq.elim
    | nil =>
      cases h with
      | @lst a vs ds ha hA => exact ⟨a, vs, ds, _, rfl, .inl (SqL.of (hsub ha)), hA, hq.1, q _ _ _ hq.2 (Same.refl H) (.bl _)⟩
      | @tup a vs ds ha hA => exact ⟨a, vs, ds, _, rfl, .inr (SqT.of (hsub ha)), hA, hq.1, q _ _ _ hq.2 (Same.refl H) (.bl _)⟩
      | _ => exact hq.elim⟩

/-! ### methods of texts -/
def dMt (q : PyData → PyData → DP) (pa pb : DE) : DE := fun ss n Q => pa ss n fun d n1 => (∃ z, d = .str z) ∧ pb ss n1 fun e n2 => q d e fun f => Q f n2
theorem lf_mt {r : V → List V → Hp → VK → Prop} {q : PyData → PyData → DP} (hr : LR (fun x y H Q => r x [y] H Q) q) (ha : Lf ta pa) (hb : Lf tb pb) : Lf (tM1 r ta tb) (dMt q pa pb) := fun g H0 σ H ss n w Q Q1 k h hq =>
  ha g H0 σ H ss n w _ _ k h fun d n1 v H1 h1 e1 k1 r1 => by
    obtain ⟨⟨z, rfl⟩, h1⟩ := h1
    cases r1
    refine ⟨⟨z, rfl⟩, hb g H0 σ H1 ss n1 w _ _ k1 h1 fun e n2 u H2 h2 e2 k2 r2 => ?_⟩
    exact hr g.h H2 (.str z) u (.str z) e Q _ k2.hd (.str z) r2 h2 fun z H3 f h3 e3 r3 => hq f n2 z H3 h3 ((e1.trans e2).trans (Ed.of e3)) (k2.same e3) r3
theorem l_join {o : Expr} {to : TE} {po : DE} (ho : PL X o to po) (he : PL X e ta pa) (hs : starEach [e] X.env = [(false, eval e X.env)] := by rfl) (hb : attributeBase o (Str.ofString "join") X.env (eval o X.env) = eval o X.env := by rfl) (hl : (apos.endLine == pos.line) = true := by rfl) :
    PL X (.Call (.Attribute o "join" apos) [e] [] pos) (tM1 (fun x xs H Q => ∃ a p ys, x = V.str a ∧ xs = [V.ref p] ∧ (SqL X.K H p (List.map V.str ys) ∨ SqT X.K H p (List.map V.str ys)) ∧ (List.map (fun x => x.length) ys).sum + ys.length * a.length ≤ 16777216 ∧ Q (V.str (Txt.join a ys)) H) to ta) (dMt qJoin po pa) :=
  ⟨pe_join ho.pe he.pe hs hb hl, lf_mt (fun hh H x y d e Q Q1 hd hx hy h q => by
    cases hx with
    | str z =>
      cases hy with
      | @lst a vs ds ha hA =>
        obtain ⟨ys, rfl, h1, h2⟩ := h
        exact ⟨z, a, ys, rfl, rfl, .inl (by rw [← strs_of hA]; exact SqL.of (hsub ha)), h1, q _ _ _ h2 (Same.refl H) (.str _)⟩
      | _ => exact h.elim
    | _ => cases hy <;> exact h.elim) ho.lf he.lf⟩
end
end Ev

namespace Ev
open PySem PySem.Spec PyProof.Rows L2
/-- the names of built-ins stand for them -/
structure Blt (mg : Str → Option Value) : Prop where
  len : mg "len" = none
  int : mg "int" = none
  abs : mg "abs" = none
  sum : mg "sum" = none
  any : mg "any" = none
  all : mg "all" = none
  min : mg "min" = none
  max : mg "max" = none
  repr : mg "repr" = none
  range : mg "range" = none
  zip : mg "zip" = none
  tuple : mg "tuple" = none
  list : mg "list" = none
  isinstance : mg "isinstance" = none
  enumerate : mg "enumerate" = none
  str : mg "str" = none
  bool : mg "bool" = none
  ValueError : mg "ValueError" = none
/-- a def of the text -/
def Txt (K : PySem.W.Frag) (mg : Str → Option Value) (x : Str) (st : Stmt) (ps : List Str) : Prop := ∃ f fd, Fun K x x st f fd ∧ mg x = some (.ref f) ∧ Binds K fd ps []
/-- a def that keeps a promise -/
def Cal (P : Program) (w : World) (K : PySem.W.Frag) (mg : Str → Option Value) (base : Heap) (x : Str) (ps : List Str) (k : Nat) (sp : Sp) : Prop :=
  ∃ f fd, FnG P w K mg base CX0 k f fd ps sp ∧ mg x = some (.ref f) ∧ PySem.W.keepIn K (.ref f) = true ∧ Binds K fd ps []
section
variable {P : Program} {w : World} {K : PySem.W.Frag} {mg : Str → Option Value} {base : Heap}
theorem Txt.cal {x : Str} {st : Stmt} {ps : List Str} {k : Nat} {sp : Sp} (T : Txt K mg x st ps) (h : ∀ f fd, Fun K x x st f fd → FnG P w K mg base CX0 k f fd ps sp) : Cal P w K mg base x ps k sp := by
  obtain ⟨f, fd, U, hm, hb⟩ := T
  exact ⟨f, fd, h f fd U, hm, U.kp, hb⟩
theorem Cal.mono {x : Str} {ps : List Str} {k j : Nat} {sp : Sp} (C : Cal P w K mg base x ps j sp) (h : j ≤ k) : Cal P w K mg base x ps k sp := by
  obtain ⟨f, fd, G, r⟩ := C
  exact ⟨f, fd, G.mono h, r⟩
theorem Txt.def {N ps : List Str} {x : Str} {st : Stmt} {F : DF} {p : DS} {k : Nat} (T : Txt K mg x st ps) (S : FnScope N ps (defScope st)) (len : ∀ as n Q, F as n Q → as.length = ps.length)
    (body : ∀ (f : Addr) (cdv : Value) (A : Around) (o : List Env) (s : Shared) (H : Hp) (E : XK), Room k (cxB P w K mg base N x st f cdv A o s H E).A → (cxB P w K mg base N x st f cdv A o s H E).A.guards = some [] → ∃ t, PLB (cxB P w K mg base N x st f cdv A o s H E) (defBody st) t p)
    (h : ∀ as n Q, F as n Q → p { nx := fun _ n' => Q .none n', rt := Q } (startS N as) n) : Cal P w K mg base x ps (k + 1) (spD F) :=
  T.cal fun f fd U => fn_def U S len (body f) h
theorem Txt.defL {N ps : List Str} {x : Str} {st : Stmt} {F : DFL} {p : DS} {k : Nat} (T : Txt K mg x st ps) (S : FnScope N ps (defScope st)) (len : ∀ as n Q, F as n Q → as.length = ps.length)
    (body : ∀ (f : Addr) (cdv : Value) (A : Around) (o : List Env) (s : Shared) (H : Hp) (E : XK), Room k (cxB P w K mg base N x st f cdv A o s H E).A → (cxB P w K mg base N x st f cdv A o s H E).A.guards = some [] → ∃ t, PLB (cxB P w K mg base N x st f cdv A o s H E) (defBody st) t p)
    (h : ∀ as n Q, F as n Q → p { nx := fun _ _ => False, rt := fun _ _ => False, rl := Q } (startS N as) n) : Cal P w K mg base x ps (k + 1) (spL F) :=
  T.cal fun f fd U => fn_defL U S len (body f) h
end
section
variable {X : Cx} {e : Expr} {es : List Expr} {tA : TA} {pA : DA} {pos p0 : Pos} {k : Nat} {x : Str} {ps : List Str}
theorem l_cal {F : DF} (C : Cal X.prog X.w X.K X.mg X.base x ps k (spD F)) (hr : Room k X.A) (hgd : X.A.guards = some []) (hg : Gl X x) (ha : PLA X (e :: es) tA pA) (hdb : (x == ("__debug__" : Str)) = false := by decide)
    (he : starEach (e :: es) X.env = (false, eval e X.env) :: starEach es X.env := by rfl) (hpl : (backTo pos (starEach es X.env)).any (·.1) = false := by rfl) :
    PL X (.Call (.Name x p0) (e :: es) [] pos) (tCallG (spD F) E0 tA) (dFn F pA) := by
  obtain ⟨f, fd, G, hm, hk, hb⟩ := C
  exact l_fn G hr hgd hg hm hk hb ha hdb he hpl
theorem f_cal {F : DFL} (C : Cal X.prog X.w X.K X.mg X.base x ps k (spL F)) (hr : Room k X.A) (hgd : X.A.guards = some []) (hg : Gl X x) (ha : PLA X (e :: es) tA pA) (hdb : (x == ("__debug__" : Str)) = false := by decide)
    (he : starEach (e :: es) X.env = (false, eval e X.env) :: starEach es X.env := by rfl) (hpl : (backTo pos (starEach es X.env)).any (·.1) = false := by rfl) :
    PLL X (.Call (.Name x p0) (e :: es) [] pos) (tCallG (spL F) E0 tA) (dFnL F pA) := by
  obtain ⟨f, fd, G, hm, hk, hb⟩ := C
  exact f_fn G hr hgd hg hm hk hb ha hdb he hpl
end
/-! ### what data tell -/
theorem atI_ofNat {α : Type} {xs : List α} {i : Nat} : atI xs (i : Int) = xs[i]? := by
  cases h : xs[i]? with
  | some x => exact atI_nat h
  | none =>
    have hl := List.getElem?_eq_none_iff.mp h
    unfold atI ixN
    rw [if_pos (by omega), if_neg (by omega)]
    rfl
theorem atI_zero {α : Type} {xs : List α} : atI xs (0 : Int) = xs[0]? := atI_ofNat (i := 0)
theorem atI_one {α : Type} {xs : List α} : atI xs (1 : Int) = xs[1]? := atI_ofNat (i := 1)
theorem atI_two {α : Type} {xs : List α} : atI xs (2 : Int) = xs[2]? := atI_ofNat (i := 2)
theorem atI_three {α : Type} {xs : List α} : atI xs (3 : Int) = xs[3]? := atI_ofNat (i := 3)
end Ev

namespace Ev
open PySem PySem.Spec PyProof.Rows L2
section
variable {pi : DI} {pe : DE} {vs : List Nat} {ss : List S} {n : Nat} {Q : DLQ} {j i : Nat}
theorem NLA_map {α : Type} {l : List α} {f : α → PyData} (h : ∀ a ∈ l, NL (f a) = true) : NLA (l.map f) = true := NLA_all.mpr fun x hx => by
  obtain ⟨a, ha, rfl⟩ := List.mem_map.mp hx
  exact h a ha
/-- each item by a function -/
theorem lc_map (xs : List PyData) (n1 : Nat) (f : PyData → PyData) (ho : okW ss vs = true) (hpi : ∀ R : List PyData → Nat → Prop, R xs n1 → pi ss n R) (hl : xs.length ≤ sizeLine)
    (he : ∀ d ∈ xs, NL (f d) = true ∧ ∀ R : DQ, R (f d) n1 → pe ((wipeS ss vs).set j (.d d)) n1 R) (hq : Q (xs.map f) n1) : dLc pi (dgName j) dYes pe vs ss n Q := by
  refine ⟨ho, hpi _ ⟨fun i acc n' => acc = (xs.take i).map f ∧ n' = n1, ⟨by simp, rfl⟩, fun i d acc n' hd ⟨e1, e2⟩ => ?_, fun acc n' ⟨e1, e2⟩ => ?_⟩⟩
  · subst e1 e2
    have hi := (List.getElem?_eq_some_iff.mp hd).1
    obtain ⟨h1, h2⟩ := he d (List.mem_of_getElem? hd)
    dsimp only [dYes, dgName]
    rw [if_pos rfl]
    refine h2 _ ⟨?_, h1, ?_, rfl⟩
    · rw [List.length_map, List.length_take]; omega
    · rw [List.take_add_one, hd, List.map_append] <;> rfl
  · subst e1 e2
    rw [List.take_length]
    exact hq
/-- each item drawn -/
theorem lc_draw (G : List PyData → Nat → Prop) (c : Nat) (Pel : PyData → Prop) (ho : okW ss vs = true) (hpi : ∀ R : List PyData → Nat → Prop, (∀ xs n1, G xs n1 → R xs n1) → pi ss n R) (hnl : ∀ y, Pel y → NL y = true)
    (he : ∀ xs n1, G xs n1 → xs.length ≤ sizeLine ∧ (∀ d ∈ xs, ∀ n', n1 ≤ n' → n' ≤ n1 + c * xs.length → ∀ R : DQ, (∀ y n4, Pel y → n' ≤ n4 → n4 ≤ n' + c → R y n4) → pe ((wipeS ss vs).set j (.d d)) n' R) ∧
      ∀ acc n', acc.length = xs.length → (∀ y ∈ acc, Pel y) → n1 ≤ n' → n' ≤ n1 + c * xs.length → Q acc n') : dLc pi (dgName j) dYes pe vs ss n Q := by
  refine ⟨ho, hpi _ fun xs n1 hg => ?_⟩
  obtain ⟨h1, h2, h3⟩ := he xs n1 hg
  refine ⟨fun i acc n' => acc.length = i ∧ (∀ y ∈ acc, Pel y) ∧ n1 ≤ n' ∧ n' ≤ n1 + c * i, ⟨rfl, (fun y hy => by cases hy), Nat.le_refl _, Nat.le_add_right _ _⟩, fun i d acc n' hd ⟨e1, e2, e3, e4⟩ => ?_, fun acc n' ⟨e1, e2, e3, e4⟩ => h3 acc n' e1 e2 e3 e4⟩
  have hi := (List.getElem?_eq_some_iff.mp hd).1
  have hm : c * i ≤ c * xs.length := Nat.mul_le_mul_left _ (by omega)
  dsimp only [dYes, dgName]
  rw [if_pos rfl]
  refine h2 d (List.mem_of_getElem? hd) n' e3 (by omega) _ fun y n4 hy h4 h5 => ⟨by omega, hnl y hy, by simp [e1], fun z hz => ?_, by omega, ?_⟩
  · rcases List.mem_append.mp hz with hz | hz
    · exact e2 z hz
    · rw [List.mem_singleton.mp hz]; exact hy
  · rw [Nat.mul_add, Nat.mul_one]; omega
/-- pairs taken apart, each by a function -/
theorem lc_map2 (xs : List PyData) (n1 : Nat) (f : PyData → PyData → PyData) (ps : List (PyData × PyData)) (hx : xs = ps.map fun p => .tuple [p.1, p.2]) (ho : okW ss vs = true) (hpi : ∀ R : List PyData → Nat → Prop, R xs n1 → pi ss n R) (hl : ps.length ≤ sizeLine)
    (he : ∀ p ∈ ps, NL (f p.1 p.2) = true ∧ ∀ R : DQ, R (f p.1 p.2) n1 → pe (((wipeS ss vs).set i (.d p.1)).set j (.d p.2)) n1 R) (hq : Q (ps.map fun p => f p.1 p.2) n1) :
    dLc pi (dgTup 2 (dgCons (dgName i) (dgCons (dgName j) dgNil))) dYes pe vs ss n Q := by
  subst hx
  refine ⟨ho, hpi _ ⟨fun i acc n' => acc = (ps.take i).map (fun p => f p.1 p.2) ∧ n' = n1, ⟨by simp, rfl⟩, fun m d acc n' hd ⟨e1, e2⟩ => ?_, fun acc n' ⟨e1, e2⟩ => ?_⟩⟩
  · subst e1 e2
    rw [List.getElem?_map] at hd
    obtain ⟨p, hp, rfl⟩ := Option.map_eq_some_iff.mp hd
    have hi := (List.getElem?_eq_some_iff.mp hp).1
    obtain ⟨h1, h2⟩ := he p (List.mem_of_getElem? hp)
    refine ⟨_, rfl, rfl, rfl, ?_⟩
    dsimp only [dYes, dgCons, dgName]
    rw [if_pos rfl]
    refine h2 _ ⟨?_, h1, ?_, rfl⟩
    · rw [List.length_map, List.length_take]; omega
    · rw [List.take_add_one, hp, List.map_append] <;> rfl
  · subst e1 e2
    rw [List.length_map, List.take_length]
    exact hq
end
theorem datas_cons {x : PyData} {as : List W} : datas (.d x :: as) = match datas as with | some ds => some (x :: ds) | none => none := rfl
end Ev

namespace Ev
open PySem PySem.Spec PyProof.Rows L2
/-- a text of its signs -/
def ofL (l : List Nat) : Str := ⟨l.toArray⟩
theorem ofL_list (l : List Nat) : (ofL l).cps.toList = l := by simp [ofL]
theorem ofL_of (x : Str) : ofL x.cps.toList = x := str_ext (ofL_list _)
theorem ofL_len (l : List Nat) : (ofL l).length = l.length := by rw [str_len, ofL_list]
theorem app_list (x y : Str) : (x ++ y).cps.toList = x.cps.toList ++ y.cps.toList := by
  show (x.cps ++ y.cps).toList = _
  simp
theorem ofL_app (a b : List Nat) : ofL a ++ ofL b = ofL (a ++ b) := str_ext (by rw [app_list, ofL_list, ofL_list, ofL_list])
theorem sjoin_list : ∀ ys : List Str, (Str.join "" ys).cps.toList = (ys.map fun y => y.cps.toList).flatten
  | [] => rfl
  | [x] => by simp [Str.join]
  | x :: y :: r => by
    have ih := sjoin_list (y :: r)
    unfold Str.join
    rw [app_list, app_list, ih]
    simp
    rfl
theorem join_list (ys : List Str) : (Txt.join "" ys).cps.toList = (ys.map fun y => y.cps.toList).flatten := by
  have h : Txt.join "" ys = Str.join "" ys := eq_of_beq (PyProof.Rows.join_plain_closes _ _)
  rw [h, sjoin_list]
theorem join_len (ys : List Str) : (Txt.join "" ys).length = (ys.map fun y => y.length).sum := by
  rw [str_len, join_list, List.length_flatten, List.map_map]
  congr 1
/-! what operations tell of data of a known kind -/
section
variable {Q : PyData → Prop} {QB : Bool → Prop} {i j : Int} {x y : Str} {xs ys : List PyData} {lo hi : Option Int} {a b : Bool} {d e : PyData}
theorem qAdd_i : qAdd (.int i) (.int j) Q = Q (.int (i + j)) := rfl
theorem qAdd_s : qAdd (.str x) (.str y) Q = (x.length + y.length ≤ sizeLine ∧ Q (.str (x ++ y))) := rfl
theorem qAdd_t : qAdd (.tuple xs) (.tuple ys) Q = (xs.length + ys.length ≤ sizeLine ∧ Q (.tuple (xs ++ ys))) := rfl
theorem qAdd_l : qAdd (.list xs) (.list ys) Q = (xs.length + ys.length ≤ sizeLine ∧ Q (.list (xs ++ ys))) := rfl
theorem qSub_i : qSub (.int i) (.int j) Q = Q (.int (i - j)) := rfl
theorem qDiv_i : qDiv (.int i) (.int j) Q = (CDivW i j ∧ Q (.int (i / j))) := rfl
theorem qMod_i : qMod (.int i) (.int j) Q = (j ≠ 0 ∧ Q (.int (i.fmod j))) := rfl
theorem qPow_i : qPow (.int i) (.int j) Q = (CPow i j ∧ Q (.int (i ^ j.toNat))) := rfl
theorem qMul_i : qMul (.int i) (.int j) Q = (CMulW i j ∧ Q (.int (i * j))) := rfl
theorem qMul_s : qMul (.str x) (.int j) Q = (-(2 ^ 63) ≤ j ∧ j < 2 ^ 63 ∧ x.length * j.toNat ≤ sizeLine ∧ Q (.str (srep x j.toNat))) := rfl
theorem qMul_t : qMul (.tuple xs) (.int j) Q = (-1000 ≤ j ∧ j ≤ 1000 ∧ xs.length ≤ 1000 ∧ Q (.tuple (List.replicate j.toNat xs).flatten)) := rfl
theorem qMul_l : qMul (.list xs) (.int j) Q = (-(2 ^ 63) ≤ j ∧ j < 2 ^ 63 ∧ xs.length * j.toNat ≤ sizeLine ∧ Q (.list (List.replicate j.toNat xs).flatten)) := rfl
theorem qLt_i : qLt (.int i) (.int j) Q = Q (.bool (decide (i < j))) := rfl
theorem qLe_i : qLe (.int i) (.int j) Q = Q (.bool (decide (i ≤ j))) := rfl
theorem qGt_i : qGt (.int i) (.int j) Q = Q (.bool (decide (i > j))) := rfl
theorem qGe_i : qGe (.int i) (.int j) Q = Q (.bool (decide (i ≥ j))) := rfl
theorem qIx_l : qIx (.list xs) (.int i) Q = (∃ x, atI xs i = some x ∧ Q x) := rfl
theorem qIx_t : qIx (.tuple xs) (.int i) Q = (∃ x, atI xs i = some x ∧ Q x) := rfl
theorem qIx_s : qIx (.str x) (.int i) Q = (x.length ≤ sizeLine ∧ ∃ c, atI x.cps.toList i = some c ∧ Q (.str ⟨#[c]⟩)) := rfl
theorem qSl_l : qSl (.list xs) lo hi Q = Q (.list (cut xs lo hi)) := rfl
theorem qSl_t : qSl (.tuple xs) lo hi Q = Q (.tuple (cut xs lo hi)) := rfl
theorem qSl_s : qSl (.str x) lo hi Q = (x.length ≤ sizeLine ∧ Q (.str (cutS x lo hi))) := rfl
theorem qLen_l : qLen [.list xs] Q = Q (.int xs.length) := rfl
theorem qLen_t : qLen [.tuple xs] Q = Q (.int xs.length) := rfl
theorem qLen_s : qLen [.str x] Q = (x.length ≤ sizeLine ∧ Q (.int x.length)) := rfl
theorem qInt_i : qIntOf [.int i] Q = Q (.int i) := rfl
theorem qInt_b : qIntOf [.bool a] Q = Q (.int (if a = true then 1 else 0)) := rfl
theorem qMin_i : qMin [.int i, .int j] Q = Q (.int (if j < i then j else i)) := rfl
theorem qTup_l : qTupOf [.list xs] Q = Q (.tuple xs) := rfl
theorem qTup_t : qTupOf [.tuple xs] Q = Q (.tuple xs) := rfl
theorem qLst_l : qLstOf [.list xs] Q = Q (.list xs) := rfl
theorem qLst_t : qLstOf [.tuple xs] Q = Q (.list xs) := rfl
theorem qTru_n : qTru .none QB = QB false := rfl
theorem qTru_b : qTru (.bool a) QB = QB a := rfl
theorem qTru_i : qTru (.int i) QB = QB (i != 0) := rfl
theorem qTru_s : qTru (.str x) QB = (x.length ≤ sizeLine ∧ QB ((x.length : Int) != 0)) := rfl
theorem qTru_l : qTru (.list xs) QB = QB (!xs.isEmpty) := rfl
theorem qTru_t : qTru (.tuple xs) QB = QB (!xs.isEmpty) := rfl
theorem qSum_l : qSum [.list xs] Q = (∃ ns : List Int, xs = ns.map PyData.int ∧ Q (.int ns.sum)) := rfl
theorem qAny_l : qAny [.list xs] Q = (xs.all isSc = true ∧ Q (.bool (xs.any tru1))) := rfl
theorem qAny_t : qAny [.tuple xs] Q = (xs.all isSc = true ∧ Q (.bool (xs.any tru1))) := rfl
theorem qJoin_l : qJoin (.str x) (.list xs) Q = (∃ ys : List Str, xs = ys.map PyData.str ∧ (ys.map (·.length)).sum + ys.length * x.length ≤ 16777216 ∧ Q (.str (Txt.join x ys))) := rfl
theorem qCount_s : qCount (.str x) (.str y) Q = Q (.int (Txt.count x y)) := rfl
theorem qEq_e : qEq d e Q = (okD d = true ∧ okD e = true ∧ Q (.bool (PyData.eqv d e))) := rfl
theorem qNe_e : qNe d e Q = (okD d = true ∧ okD e = true ∧ Q (.bool (!PyData.eqv d e))) := rfl
theorem qRepr_e : qRepr [d] Q = (shows d ∧ Q (.str d.shown)) := rfl
theorem q_add (h : Q (.int (i + j))) : qAdd (.int i) (.int j) Q := h
theorem q_sub (h : Q (.int (i - j))) : qSub (.int i) (.int j) Q := h
theorem q_mul (c : CMulW i j) (h : Q (.int (i * j))) : qMul (.int i) (.int j) Q := ⟨c, h⟩
theorem shp_i : okD (.int i) = true := by simp [okD, PyData.plain, PyData.depth]
theorem shp_s : okD (.str x) = true := by simp [okD, PyData.plain, PyData.depth]
theorem shp_b : okD (.bool a) = true := by simp [okD, PyData.plain, PyData.depth]
theorem shp_n : okD .none = true := by simp [okD, PyData.plain, PyData.depth]
theorem shp_e : okD (.list []) = true := by simp [okD, PyData.plain, PyData.depth, PyData.plainAll, PyData.depthAll]
theorem shp_z : okD (.tuple []) = true := by simp [okD, PyData.plain, PyData.depth, PyData.plainAll, PyData.depthAll]
theorem eqv_i : PyData.eqv (.int i) (.int j) = decide (i = j) := by simp only [PyData.eqv]; exact Bool.beq_eq_decide_eq i j
theorem eqv_s : PyData.eqv (.str x) (.str y) = decide (x = y) := by
  simp only [PyData.eqv]
  by_cases h : x = y
  · subst h
    simp
  · rw [decide_eq_false h]
    exact beq_eq_false_iff_ne.mpr h
theorem eqv_tt : PyData.eqv (.str (Str.ofString "text")) (.str (Str.ofString "text")) = true := by rw [eqv_s]; simp
theorem eqv_lt : PyData.eqv (.str (Str.ofString "loop")) (.str (Str.ofString "text")) = false := by rw [eqv_s]; decide +kernel
theorem ix0 {a : PyData} {l : List PyData} : atI (a :: l) 0 = some a := by rw [atI_zero]; rfl
theorem ix1 {a b : PyData} {l : List PyData} : atI (a :: b :: l) 1 = some b := by rw [atI_one]; rfl
theorem ix2 {a b c : PyData} {l : List PyData} : atI (a :: b :: c :: l) 2 = some c := by rw [atI_two]; rfl
theorem dSeq_e {q r : DS} {DD : DEnds} {ss : List S} {n : Nat} : dSeq q r DD ss n = q { DD with nx := r DD } ss n := rfl
end
end Ev

namespace Ev
open PySem PySem.Spec PyProof.Rows L2
/-! the same rules, the written part told by its own letter -/
section
variable {X : Cx} {K : PySem.W.Frag} {tg e a b c : Expr} {es : List Expr} {t ta tb tc : TE} {tt tu : TT} {tA : TA} {p pa pb pc : DE} {pt pu : DT} {pA : DA} {pos apos : Pos}
theorem k_add (hK : X.K = K) (ha : PL X a ta pa) (hb : PL X b tb pb) : PL X (.BinOp a .Add b pos) (tOp (rAdd' K) ta tb) (dOp qAdd pa pb) := by subst hK; exact l_add ha hb
theorem k_mul (hK : X.K = K) (ha : PL X a ta pa) (hb : PL X b tb pb) : PL X (.BinOp a .Mult b pos) (tOp (rMul' K) ta tb) (dOp qMul pa pb) := by subst hK; exact l_mul ha hb
theorem k_eq (hK : X.K = K) (hu : X.A.units + 64 < cLine) : CR2 X .Eq (rEqP K) qEq := by subst hK; exact c_eq hu
theorem k_ne (hK : X.K = K) (hu : X.A.units + 64 < cLine) : CR2 X .NotEq (rNeP K) qNe := by subst hK; exact c_ne hu
theorem k_tru (hK : X.K = K) (ha : PL X a ta pa) (h : ∀ (whole : Sem Value), PySem.isTrue a X.env whole = do { let v ← whole; standAt a.pos; holding [v] (truthy v) } := by intro _; rfl) : PLT X a (tTru K ta) (dTru pa) := by subst hK; exact lt_tru ha h
theorem k_not (hK : X.K = K) (ha : PL X a ta pa) : PL X (.UnaryOp .Not a pos) (tNotT K ta) (dNotV pa) := by subst hK; exact l_not ha
theorem k_and {rest : List Expr} (hK : X.K = K) (ha : PL X a ta pa) (hb : PL X (.BoolOp .And (b :: rest) pos) tb pb) : PL X (.BoolOp .And (a :: b :: rest) pos) (tAndT K ta tb) (dAndV pa pb) := by subst hK; exact l_and ha hb
theorem k_or {rest : List Expr} (hK : X.K = K) (ha : PL X a ta pa) (hb : PL X (.BoolOp .Or (b :: rest) pos) tb pb) : PL X (.BoolOp .Or (a :: b :: rest) pos) (tOrT K ta tb) (dOrV pa pb) := by subst hK; exact l_or ha hb
theorem k_ix (hK : X.K = K) (ha : PL X a ta pa) (hb : PL X b tb pb) (hs : PlainIx b := by intro _ _; rfl) : PL X (.Subscript a b pos) (tOp (rIx K) ta tb) (dOp qIx pa pb) := by subst hK; exact l_ix ha hb hs
theorem k_sl {lo hi : Option Expr} {tl th : TO} {pl ph : DO} {p2 : Pos} (hK : X.K = K) (ha : PL X a ta pa) (hl : PLO X lo tl pl) (hu : PLO X hi th ph) : PL X (.Subscript a (.Slice lo hi none p2) pos) (tSl (rSl' K) ta tl th) (dSl pa pl ph) := by subst hK; exact l_sl ha hl hu
theorem kb_len (hK : X.K = K) : CB X (.builtin "len") (fun xs H Q => ∃ x n, xs = [x] ∧ LenV K x H n ∧ Q (V.int n) H) qLen := by subst hK; exact b_len
theorem kb_sum (hK : X.K = K) (hc : X.calm = true) : CB X (.builtin "sum") (rSum K) qSum := by subst hK; exact b_sum hc
theorem kb_any (hK : X.K = K) (hc : X.calm = true) : CB X (.builtin "any") (rAnyD K) qAny := by subst hK; exact b_any hc
theorem kb_tuple (hK : X.K = K) : CB X (.type "tuple") (fun xs H Q => ∃ p ys, xs = [V.ref p] ∧ ((SqL K H p ys ∧ ∀ (l : Addr), H l = none → Q (V.ref l) (upd H l (HO.tup ys))) ∨ SqT K H p ys ∧ Q (V.ref p) H)) qTupOf := by subst hK; exact b_tuple
theorem kb_list (hK : X.K = K) : CB X (.type "list") (fun xs H Q => ∃ p ys, xs = [V.ref p] ∧ (SqL K H p ys ∨ SqT K H p ys) ∧ ∀ (l : Addr), H l = none → Q (V.ref l) (upd H l (HO.lst ys))) qLstOf := by subst hK; exact b_list
theorem kb_repr (hK : X.K = K) (hg : X.A.guards = some []) (hu : X.A.units + 200 < cLine) : CB X (.builtin "repr") (rRepr K) qRepr := by subst hK; exact b_repr hg hu
theorem k_join {o : Expr} {to : TE} {po : DE} (hK : X.K = K) (ho : PL X o to po) (he : PL X e ta pa) (hs : starEach [e] X.env = [(false, eval e X.env)] := by rfl) (hb : attributeBase o (Str.ofString "join") X.env (eval o X.env) = eval o X.env := by rfl) (hl : (apos.endLine == pos.line) = true := by rfl) :
    PL X (.Call (.Attribute o "join" apos) [e] [] pos) (tM1 (fun x xs H Q => ∃ a p ys, x = V.str a ∧ xs = [V.ref p] ∧ (SqL K H p (List.map V.str ys) ∨ SqT K H p (List.map V.str ys)) ∧ (List.map (fun x => x.length) ys).sum + ys.length * a.length ≤ 16777216 ∧ Q (V.str (Txt.join a ys)) H) to ta) (dMt qJoin po pa) := by
  subst hK; exact l_join ho he hs hb hl
theorem k_seq (hK : X.K = K) (ha : PL X a ta pa) : PLI X tg a (iSeq K ta) (diSeq pa) := by subst hK; exact i_seq ha
theorem k_L {pl : DL} (hK : X.K = K) (ha : PLL X a ta pl) : PLI X tg a (iSeq K ta) (diL pl) := by subst hK; exact i_L ha
theorem k_zip {p0 tpos : Pos} {elts : List Expr} {kk : Nat} (hK : X.K = K) (hg : Gl X "zip") (hm : X.mg "zip" = none) (ha : PLA X [a, b] tA pA) (hs : starEach [a, b] X.env = (false, eval a X.env) :: starEach [b] X.env := by rfl) (hpl : (backTo pos (starEach [b] X.env)).any (·.1) = false := by rfl) :
    PLI X (.Tuple elts kk tpos) (.Call (.Name "zip" p0) [a, b] [] pos) (RZ.iZipA K tA) (diZip pA) := by subst hK; exact i_zip hg hm ha hs hpl
theorem k_tup {k n : Nat} {tr : TGs} {is : List Nat} {pr : DGs} (hK : X.K = K) (hc : X.calm = true) (h : PLTgs X es tr is pr) (hn : (assignEach es X.env).length = n := by rfl) (hst : List.findIdx? (fun x => x.fst) (assignEach es X.env) = none := by rfl) :
    PLTg X (.Tuple es k pos) (gTup K n tr) is (dgTup n pr) := by subst hK; exact g_tup hc h hn hst
/-- texts' count -/
theorem l_count {o : Expr} {to : TE} {po : DE} (ho : PL X o to po) (he : PL X e ta pa) (hs : starEach [e] X.env = [(false, eval e X.env)] := by rfl) (hb : attributeBase o (Str.ofString "count") X.env (eval o X.env) = eval o X.env := by rfl) (hl : (apos.endLine == pos.line) = true := by rfl) :
    PL X (.Call (.Attribute o "count" apos) [e] [] pos) (tM1 (fun x xs H Q => ∃ a b, x = V.str a ∧ xs = [V.str b] ∧ Q (V.int (Txt.count a b)) H) to ta) (dMt qCount po pa) :=
  ⟨pe_m1 PySem.F.slot_str_count PySem.F.type_str_count mt_count ho.pe he.pe hs hb hl, lf_mt (fun hh H x y d e Q Q1 hd hx hy h q => by
    cases hx with
    | str z =>
      cases hy with
      | str y => exact ⟨z, y, rfl, rfl, q _ _ _ h (Same.refl H) (.int _)⟩
      | _ => exact h.elim
    | _ => cases hy <;> exact h.elim) ho.lf he.lf⟩
def qNeg : PyData → DP := fun d Q => match d with
  | .int i => Q (.int (-i))
  | _ => False
def dNeg (p : DE) : DE := fun ss n Q => p ss n fun d n' => qNeg d fun f => Q f n'
theorem qNeg_i {i : Int} {Q : PyData → Prop} : qNeg (.int i) Q = Q (.int (-i)) := rfl
theorem l_neg (ha : PL X a ta pa) : PL X (.UnaryOp .USub a pos) (tUn (rU fun i => V.int (-i)) ta) (dNeg pa) := ⟨pe_un un_neg ha.pe, fun g H0 σ H ss n w Q Q1 k hp q => ha.lf g H0 σ H ss n w _ _ k hp fun d n' v H' h1 e1 k1 r1 => by
  cases r1 with
  | int i => exact ⟨i, rfl, q _ _ _ _ h1 e1 k1 (.int _)⟩
  | _ => exact h1.elim⟩
end
end Ev

namespace Ev
open PySem PySem.Spec PyProof.Rows L2
/-! ### zip of a list and a tuple -/
def ItzM (K : PySem.W.Frag) (a b : Addr) : It :=
  ⟨fun i H => ∃ (us ws : List V) (x y : V), SqL K H a us ∧ SqT K H b ws ∧ us[i]? = some x ∧ ws[i]? = some y,
    fun i H v H' => ∃ T x y, v = .ref T ∧ H T = none ∧ H' = upd H T (.tup [x, y]) ∧ (∀ us, SqL K H a us → us[i]? = some x) ∧ ∀ ws, SqT K H b ws → ws[i]? = some y,
    fun i H => ∃ us ws : List V, SqL K H a us ∧ SqT K H b ws ∧ i ≤ us.length ∧ i ≤ ws.length ∧ (us.length = i ∨ ws.length = i)⟩
def zst (z TI TO i1 i2 a b : Addr) : Nat → Heap → Prop := fun i h => IsZip h z TI TO .none ∧ IsTupOf2 h TI (.ref i1) (.ref i2) ∧ (∃ x y, IsTupOf2 h TO x y) ∧ h.IsListIter i1 a i ∧ h.IsTupleIter i2 b i
theorem turn_mix {P : Program} {w : World} {K : PySem.W.Frag} {elts : List Expr} {kk : Nat} {tpos : Pos} {a b z TI TO i1 i2 : Addr} (S : ZipSep2 z TI TO i1 i2 [i1, a] [i2, b]) :
    Turn P w K (.Tuple elts kk tpos) (ItzM K a b) [z, TI, TO, i1, i2] z (zst z TI TO i1 i2 a b) := by
  have na : a ≠ i1 ∨ a = i1 := by by_cases h : a = i1; exact .inr h; exact .inl h
  have five : ∀ {c : Addr}, c ∈ [z, TI, TO, i1, i2] → c = z ∨ c = TI ∨ c = TO ∨ c = i1 ∨ c = i2 := fun {c} h => by simpa using h
  refine ⟨by simp, fun i h st c hc => ?_, fun i h h' st k => ?_, ?_, ?_, fun A i s Q E st h => wpAny_pyIter_zip st.1 h⟩
  · obtain ⟨hz, hTI, ⟨x, y, hTO⟩, ⟨o1, e1, _, d1⟩, ⟨o2, e2, _, d2⟩⟩ := st
    rcases five hc with rfl | rfl | rfl | rfl | rfl
    · exact ⟨_, hz, fun v q => nomatch q⟩
    · exact ⟨_, hTI, fun v q => nomatch q⟩
    · exact ⟨_, hTO, fun v q => nomatch q⟩
    · exact ⟨o1, e1, fun v q => by rw [d1] at q; cases q⟩
    · exact ⟨o2, e2, fun v q => by rw [d2] at q; cases q⟩
  · obtain ⟨hz, hTI, ⟨x, y, hTO⟩, h1, h2⟩ := st
    exact ⟨k z (by simp) _ hz, k TI (by simp) _ hTI, ⟨x, y, k TO (by simp) _ hTO⟩, h1.at fun o q => k i1 (by simp) o q, h2.at fun o q => k i2 (by simp) o q⟩
  · intro X hP hw hK hc i pins s σ H E I hf st hg
    subst hP hw hK
    obtain ⟨hz, hTI, ⟨x0, y0, hTO⟩, h1, h2⟩ := st
    obtain ⟨us, ws, x, y, qa, qb, hx, hy⟩ := hg
    obtain ⟨its, rv, p1, _⟩ := I.list qa
    obtain ⟨jts, rw', p2, _⟩ := I.tuple qb
    obtain ⟨u, hu, ru⟩ := rv.get hx
    obtain ⟨v, hv, rv2⟩ := rw'.get hy
    have ne1 : a ≠ i1 := fun e => by
      have q := p1.isList
      rw [e] at q
      obtain ⟨o, ho, hc', _⟩ := h1
      obtain ⟨o', ho', hc2, _⟩ := q
      rw [ho] at ho'
      cases ho'
      rw [hc'] at hc2
      simp at hc2
    have ne2 : b ≠ i2 := fun e => by
      have q : s.heap.IsTuple b jts.toArray := p2
      rw [e] at q
      obtain ⟨o, ho, hc', _⟩ := h2
      obtain ⟨o', ho', hc2, _⟩ := q
      rw [ho] at ho'
      cases ho'
      rw [hc'] at hc2
      simp at hc2
    have D1 := Draws.list (prog := X.prog) (w := X.w) (A := X.A.in1) (I.ok.hd hc) i1 a ne1 its.toArray
    have D2 := Draws.tuple (prog := X.prog) (w := X.w) (A := X.A.in1) (I.ok.hd hc) i2 b ne2 jts.toArray
    have lt1 : i < its.toArray.size := by
      have := (List.getElem?_eq_some_iff.mp hu).1
      simpa using this
    have lt2 : i < jts.toArray.size := by
      have := (List.getElem?_eq_some_iff.mp hv).1
      simpa using this
    refine wpAny_pyNext_zipD2_item S D1 D2 hz hTI hTO ⟨h1, p1.isList⟩ ⟨h2, p2⟩ lt1 lt2 fun x1 x2 h' tk y1 y2 b1 b2 d1 d2 b5 b6 hk => ?_
    have e1 : x1 = u := by
      have y1 : its[i]? = some x1 := by simpa using y1
      rw [hu] at y1
      exact (Option.some.inj y1).symm
    have e2 : x2 = v := by
      have y2 : jts[i]? = some x2 := by simpa using y2
      rw [hv] at y2
      exact (Option.some.inj y2).symm
    subst e1 e2
    have zlt : z < s.heap.objs.size := Heap.lt_size hz
    refine ⟨_, rfl, wpAny_letOwnedTupleGo_zip (s := { s with heap := h', toks := tk }) b1 fun h2' z2 sb => ?_⟩
    have keepz : ∀ c o, c ≠ z → h'.get? c = some o → h2'.get? c = some o := fun c o n q => (sb.2 _ n).trans q
    have hT2 := keepz _ _ (Nat.ne_of_gt zlt) b5
    have new : ObjOk X.prog X.w (upd H s.heap.objs.size (.tup [x, y])) h2' s.heap.objs.size (.tup [x, y]) := ⟨by show 2 ≤ sizeLine; decide, [x1, x2], .cons ru (.cons rv2 .nil), ⟨_, hT2, rfl, _, rfl⟩⟩
    have I1 : Inv X pins σ (upd H s.heap.objs.size (.tup [x, y])) { s with heap := h2', toks := tk } := I.turnedNew (ch := [z, TI, TO, i1, i2]) (fun c o hb q => by
      have hb : c ≠ z ∧ c ≠ TI ∧ c ≠ TO ∧ c ≠ i1 ∧ c ≠ i2 := by simpa using hb
      exact keepz _ _ hb.1 (hk c o hb.1 hb.2.2.1 hb.2.2.2.1 hb.2.2.2.2 q)) hf (Nat.le_refl _) new
    refine ⟨.ref s.heap.objs.size, _, I1, rfl, ⟨_, x, y, rfl, I.hok.fresh (Nat.le_refl _), rfl, fun l hl => by rw [I.list_inj hl qa]; exact hx, fun l hl => by rw [I.tuple_inj hl qb]; exact hy⟩, ⟨z2, keepz _ _ S.TIz (hk _ _ S.TIz S.TITO S.TIi1 S.TIi2 hTI), ⟨_, _, keepz _ _ S.TOz b2⟩, d1.1.at fun o q => keepz _ _ (Ne.symm S.zi1) q, d2.1.at fun o q => keepz _ _ (Ne.symm S.zi2) q⟩, fun c hcm => ?_⟩
    have hlt : c < s.heap.objs.size := by
      rcases five hcm with rfl | rfl | rfl | rfl | rfl
      · exact zlt
      · exact Heap.lt_size hTI
      · exact Heap.lt_size hTO
      · exact let ⟨_, q, _⟩ := h1; Heap.lt_size q
      · exact let ⟨_, q, _⟩ := h2; Heap.lt_size q
    rw [upd_ne (Nat.ne_of_lt hlt)]
    exact (hf c hcm).1
  · intro X hP hw hK hc i pins s σ H E I hf st hg
    subst hP hw hK
    obtain ⟨hz, hTI, ⟨x0, y0, hTO⟩, h1, h2⟩ := st
    obtain ⟨us, ws, qa, qb, l1, l2, hend⟩ := hg
    obtain ⟨its, rv, p1, _⟩ := I.list qa
    obtain ⟨jts, rw', p2, _⟩ := I.tuple qb
    have n1 := rv.length
    have n2 := rw'.length
    have ne1 : a ≠ i1 := fun e => by
      have q := p1.isList
      rw [e] at q
      obtain ⟨o, ho, hc', _⟩ := h1
      obtain ⟨o', ho', hc2, _⟩ := q
      rw [ho] at ho'
      cases ho'
      rw [hc'] at hc2
      simp at hc2
    have ne2 : b ≠ i2 := fun e => by
      have q : s.heap.IsTuple b jts.toArray := p2
      rw [e] at q
      obtain ⟨o, ho, hc', _⟩ := h2
      obtain ⟨o', ho', hc2, _⟩ := q
      rw [ho] at ho'
      cases ho'
      rw [hc'] at hc2
      simp at hc2
    have D1 := Draws.list (prog := X.prog) (w := X.w) (A := X.A.in1) (I.ok.hd hc) i1 a ne1 its.toArray
    have D2 := Draws.tuple (prog := X.prog) (w := X.w) (A := X.A.in1) (I.ok.hd hc) i2 b ne2 jts.toArray
    refine wpAny_pyNext_zipD2_end S D1 D2 hz hTI hTO ⟨h1, p1.isList⟩ ⟨h2, p2⟩ (by simp; omega) (by simp; omega) (by simp; omega) fun h' tk hk => ⟨rfl, I.turnedL (ch := [z, TI, TO, i1, i2]) (fun c o hb q => ?_) hf⟩
    have hb : c ≠ z ∧ c ≠ TI ∧ c ≠ TO ∧ c ≠ i1 ∧ c ≠ i2 := by simpa using hb
    exact hk c o hb.1 hb.2.2.1 hb.2.2.2.1 hb.2.2.2.2 q
def iZipM (K : PySem.W.Frag) (ta : TA) : TI := fun σ H R => ta σ H fun vs H1 => ∃ a b us ws, vs = [.ref a, .ref b] ∧ SqL K H1 a us ∧ SqT K H1 b ws ∧ R (ItzM K a b) H1
theorem pi_zipM {X : Cx} {e e2 : Expr} {ta : TA} {p pos tpos : Pos} {elts : List Expr} {kk : Nat} (hg : Gl X "zip") (hm : X.mg "zip" = none) (ha : PA X [e, e2] ta) (h1 : starEach [e, e2] X.env = (false, eval e X.env) :: starEach [e2] X.env := by rfl) (h2 : (backTo pos (starEach [e2] X.env)).any (·.1) = false := by rfl) :
    PI X (.Tuple elts kk tpos) (.Call (.Name "zip" p) [e, e2] [] pos) (iZipM X.K ta) := by
  refine ⟨fun pins s σ H R I h => Call_ (ld_blt I hg hm PyProof.Rows.boot_zip (PyProof.Rows.callWith_type1 (thn (ha.run pos pins s σ H _ I h) fun us s1 ⟨vs, H1, I1, r1, q1⟩ => ?_) h1 h2))⟩
  obtain ⟨a, b, xs, ys, rfl, qa, qb, q⟩ := q1
  cases r1 with
  | cons ra r1 =>
    cases r1 with
    | cons rb r1 =>
      cases r1
      cases ra
      cases rb
      obtain ⟨its, rv, p1, _⟩ := I1.list qa
      obtain ⟨jts, rw', p2, _⟩ := I1.tuple qb
      have la : a < s1.heap.objs.size := p1.lt
      have lb : b < s1.heap.objs.size := by
        obtain ⟨o, ho, _⟩ := id p2
        exact Heap.lt_size ho
      refine zip_begins2 (begins_list a its.toArray) (begins_tuple b jts.toArray) p1.isList p2 fun h' hz hTI hTO g1 g2 hsz hk => wpAny_pyIter_zip hz ?_
      refine ⟨_, _, _, _, H1, rfl, I1.kept (t' := s1.toks) hk, turn_mix (zip_sep2 (fp1 := [a]) (fp2 := [b]) (by simpa using la) (by simpa using lb)), ⟨hz, hTI, ⟨_, _, hTO⟩, ⟨_, g1, rfl, rfl⟩, ⟨_, g2, rfl, rfl⟩⟩, fun c hc => ?_, q⟩
      have hle : s1.heap.objs.size ≤ c := by
        have hc : c = s1.heap.objs.size + 4 ∨ c = s1.heap.objs.size + 2 ∨ c = s1.heap.objs.size + 3 ∨ c = s1.heap.objs.size ∨ c = s1.heap.objs.size + 1 := by simpa using hc
        rcases hc with rfl | rfl | rfl | rfl | rfl
        · exact Nat.le_add_right _ _
        · exact Nat.le_add_right _ _
        · exact Nat.le_add_right _ _
        · exact Nat.le_refl _
        · exact Nat.le_add_right _ _
      exact I1.fpOk hle (I1.hok.fresh hle)
def diZipM (pA : DA) : DI := fun ss n Q => pA ss n fun as n' => onD as fun ds => ∃ xs ys, ds = [.list xs, .tuple ys] ∧ canD ss (.list xs) ∧ canD ss (.tuple ys) ∧ Q (zipD xs ys) n'
section
variable {X : Cx} {a b : Expr} {tA : TA} {pA : DA} {pos : Pos}
theorem i_zipM {p0 tpos : Pos} {elts : List Expr} {kk : Nat} (hg : Gl X "zip") (hm : X.mg "zip" = none) (ha : PLA X [a, b] tA pA) (hs : starEach [a, b] X.env = (false, eval a X.env) :: starEach [b] X.env := by rfl) (hpl : (backTo pos (starEach [b] X.env)).any (·.1) = false := by rfl) :
    PLI X (.Tuple elts kk tpos) (.Call (.Name "zip" p0) [a, b] [] pos) (iZipM X.K tA) (diZipM pA) := ⟨pi_zipM hg hm ha.pa hs hpl, fun g H0 σ H ss n w R Q1 k h q => ha.lf g H0 σ H ss n w _ _ k h fun as n' vs H' h1 e1 k1 r1 => by
  obtain ⟨ds, e, xs, ys, rfl, c1, c2, h1⟩ := onD_some h1
  have r := datas_ok r1 e
  cases r with
  | cons ra r =>
    cases r with
    | cons rb r =>
      cases r
      have s1 := k1.strong ra c1
      have s2 := k1.strong rb c2
      cases s1 with
      | @lst a us _ ha hA =>
        cases s2 with
        | @tup b zs _ hb hB =>
          refine ⟨a, b, us, zs, rfl, SqL.of (hsub ha), SqT.of (hsub hb), q _ _ _ _ h1 e1 k1 fun H w' s hd hn => ?_⟩
          have ga : H a = some (.lst us) := (hw_some.mp (s _ _ ha)).2
          have gb : H b = some (.tup zs) := (hw_some.mp (s _ _ hb)).2
          have hl : (zipD xs ys).length = min us.length zs.length := by rw [hA.len, hB.len]; simp [zipD]
          refine ⟨fun i hi => ?_, fun i v H2 hy hi => ?_, us, zs, SqL.of ga, SqT.of gb, by omega, by omega, by omega⟩
          · have h1 : i < us.length := by omega
            have h2 : i < zs.length := by omega
            exact ⟨us, zs, us[i], zs[i], SqL.of ga, SqT.of gb, List.getElem?_eq_getElem h1, List.getElem?_eq_getElem h2⟩
          · obtain ⟨T, x, y, rfl, hT, rfl, f1, f2⟩ := hy
            exact zip_item (hA.same s) (hB.same s) hT (f1 _ (SqL.of ga)) (f2 _ (SqT.of gb))⟩
end
end Ev

namespace Ev
open PySem PySem.Spec PyProof.Rows L2
/-! ### the text of integers of many digits, and of tuples of them -/
mutual
inductive Big : PyData → Prop
  | int (i : Int) (h : i.natAbs < 10 ^ 4300) : Big (.int i)
  | tup {xs : List PyData} : BigA xs → Big (.tuple xs)
inductive BigA : List PyData → Prop
  | nil : BigA []
  | cons {x : PyData} {r : List PyData} : Big x → BigA r → BigA (x :: r)
end
theorem gives_big (a : Int) (t : Tok) (ha : a.natAbs < 10 ^ 4300) : GivesAt (fun s => s.heap.NoDigits) (Builtin.«int.__repr__» ⟨[.int a t], []⟩) (.str (toString a)) := fun prog w A R s hn hq => by
  unfold Builtin.«int.__repr__»
  change wpAny _ _ (Bind.bind (Builtin.overDigitLimit? a) _) _ _ s
  exact wpAny_bind (overDigitLimit_any hn (fun _ => wpAny_bind (wpAny_mkStr (wpAny_pure hq.2) (int_text_fits10 ha))) (fun z => absurd ha (Nat.not_lt.mpr z)))
section
variable {prog : Program} {w : World} {h₀ : Heap}
theorem reprK_int {bs : List Addr} {dp : Nat} {a : Int} (t : Tok) (hn : h₀.NoDigits) (ha : a.natAbs < 10 ^ 4300) : ReprK prog w bs h₀ dp (.int a t) (toString a) := fun m hm A g E s Q hg hc hu hk hQ => by
  rw [pyReprUnder_leaf (by omega) (fun b z => by cases z)]
  unfold pyRepr
  refine wpAny_bind (wpAny_pyReprObj_slot (by omega) (typeIs_int s a t) F.slot_int_repr.toG (call_givesAt F.slot_int_repr (typeIs_int s a t) F.entry_int_repr (F.args_int_repr_1 _) (gives_big a t ha) (hn.keeps hk) ?_))
  exact ⟨int_text_fits10 ha, _, _, rfl, wpAny_pure (hQ s.heap _ fun _ _ z => z)⟩
mutual
theorem reprK_big (hn : h₀.NoDigits) : ∀ (d : PyData) {v : Value} {as : List Addr}, Big d → Reads h₀ v d as → d.shown.length ≤ sizeLine → ∃ bs, ReadAtMost h₀ d.depth bs ∧ ReprK prog w bs h₀ d.depth v d.shown
  | .int i, _, _, hb, r, hz => by
    cases hb with
    | int _ hi =>
      cases r with
      | int _ t => exact ⟨[], (fun _ z => nomatch z), by simp only [PyData.shown]; exact reprK_int t hn hi⟩
  | .tuple xs, _, _, hb, r, hz => by
    cases hb with
    | tup hB =>
      have r0 := r
      cases r with
      | tuple h1 h2 h3 h4 =>
        rw [PyData.shown] at hz
        obtain ⟨bs, q1, q2⟩ := reprKA_big hn xs hB h4 (fun t ht => Nat.le_trans (tupleText_mem_le ht) hz)
        have q3 := not_mem_of_deeper r0 (n := PyData.depthAll xs) (bs := bs) (by rw [PyData.depth]; omega) q1
        refine ⟨_ :: bs, ReadAtMost.cons r0 (by rw [PyData.depth]; omega) q1, ?_⟩
        rw [PyData.shown, PyData.depth]
        exact ReprK.tuple h1 h2 h3 q3 q2
theorem reprKA_big (hn : h₀.NoDigits) : ∀ (ds : List PyData) {vs : List Value} {as : List Addr}, BigA ds → ReadsAll h₀ vs ds as → (∀ t ∈ PyData.shownAll ds, t.length ≤ sizeLine) →
    ∃ bs, ReadAtMost h₀ (PyData.depthAll ds) bs ∧ ReprAllK prog w bs h₀ (PyData.depthAll ds) vs (PyData.shownAll ds)
  | [], _, _, _, r, _ => by
    cases r
    exact ⟨[], (fun _ z => nomatch z), by simp only [PyData.shownAll]; exact .nil⟩
  | d :: ds, _, _, hb, r, hz => by
    cases hb with
    | cons hb1 hb2 =>
      cases r with
      | cons r1 r2 =>
        rw [PyData.shownAll] at hz
        obtain ⟨b1, p1, p2⟩ := reprK_big hn d hb1 r1 (hz _ List.mem_cons_self)
        obtain ⟨b2, p3, p4⟩ := reprKA_big hn ds hb2 r2 fun t ht => hz t (List.mem_cons_of_mem _ ht)
        refine ⟨b1 ++ b2, ?_, ?_⟩
        · rw [PyData.depthAll]
          exact (p1.mono (Nat.le_max_left _ _)).append (p3.mono (Nat.le_max_right _ _))
        · rw [PyData.depthAll, PyData.shownAll]
          exact .cons ((p2.more fun b z => List.mem_append_left _ z).level_le (Nat.le_max_left _ _)) (p4.more_le (fun b z => List.mem_append_right _ z) (Nat.le_max_right _ _))
end
end
def qReprB : List PyData → DP := fun ds Q => match ds with
  | [d] => (Big d ∧ d.depth ≤ 100 ∧ d.shown.length ≤ sizeLine) ∧ Q (.str d.shown)
  | _ => False
theorem qReprB_e {d : PyData} {Q : PyData → Prop} : qReprB [d] Q = ((Big d ∧ d.depth ≤ 100 ∧ d.shown.length ≤ sizeLine) ∧ Q (.str d.shown)) := rfl
def rReprB (K : PySem.W.Frag) : List V → Hp → VK → Prop := fun xs H Q => ∃ v d, xs = [v] ∧ Dp K H v d ∧ (Big d ∧ d.depth ≤ 100 ∧ d.shown.length ≤ sizeLine) ∧ Q (.str d.shown) H
section
variable {X : Cx}
theorem call_reprB (hn : X.base.NoDigits) (hg : X.A.guards = some []) (hu : X.A.units + 200 < cLine) : CallR X (.builtin "repr") (rReprB X.K) := by
  intro pins s σ H xs us Q I r h
  obtain ⟨v, d, rfl, hd, ⟨s1, s2, s3⟩, q⟩ := h
  obtain ⟨u, rfl, r2⟩ : ∃ u, us = [u] ∧ RelV v u := by
    cases r with
    | cons a b => cases b; exact ⟨_, rfl, a⟩
  have nd : s.heap.NoDigits := hn.keeps I.bk
  cases hd with
  | int i =>
    obtain ⟨t, rfl⟩ : ∃ t, u = Value.int i t := r2
    cases s1 with
    | int _ hi =>
      exact call_repr_slot (by omega) (typeIs_int s i t) F.slot_int_repr.toG (call_givesAt F.slot_int_repr (typeIs_int s i t) F.entry_int_repr (F.args_int_repr_1 _) (gives_big i t hi) nd ⟨int_text_fits10 hi, _, _, rfl, .str _, H, I.tok _, ⟨_, rfl⟩, q⟩)
  | @tup a xs ds h1 h2 =>
    obtain rfl : u = Value.ref a := r2
    obtain ⟨as, rd⟩ := Dp.reads I _ _ _ (.tup h1 h2) rfl
    have rd0 := rd
    cases s1 with
    | tup hB =>
      cases rd with
      | tuple e1 e2 e3 e4 =>
        rw [PyData.shown] at s3 q
        rw [PyData.depth] at s2
        obtain ⟨bs, q1, q2⟩ := reprKA_big (prog := X.prog) (w := X.w) nd ds hB e4 (fun t ht => Nat.le_trans (tupleText_mem_le ht) s3)
        have q3 := not_mem_of_deeper rd0 (n := PyData.depthAll ds) (bs := bs) (by rw [PyData.depth]; omega) q1
        exact call_repr_slot (by omega) ⟨_, e1, e2⟩ F.slot_tuple_repr (call_tuple_reprK e1 e2 e3 q3 q2 hg (fun b _ => Clear.nil b) (by show X.A.units + 1 + _ < cLine; omega) (fun _ _ z => z) (fun h' u tk hk => ⟨_, _, rfl, .str _, H, I.kept hk, ⟨_, rfl⟩, q⟩) s3)
  | _ => cases s1
theorem kb_reprB {K : PySem.W.Frag} (hK : X.K = K) (hn : X.base.NoDigits) (hg : X.A.guards = some []) (hu : X.A.units + 200 < cLine) : CB X (.builtin "repr") (rReprB K) qReprB := by
  subst hK
  exact ⟨call_reprB hn hg hu, fun hh H xs ds Q Q1 hd h hq q => by
    cases h with
    | nil => exact hq.elim
    | @cons v vs d ds h r =>
      cases r with
      | cons _ _ => exact hq.elim
      | nil => exact ⟨_, _, rfl, (h.same hw_sub).dp, hq.1, q _ _ _ hq.2 (Same.refl H) (.str _)⟩⟩
end
end Ev

namespace Ev
open PySem PySem.Spec PyProof.Rows L2
/-! ### data that repr shows, and how long their texts are at most -/
mutual
def nice : PyData → Bool
  | .none => true
  | .bool _ => true
  | .int i => decide (i.natAbs.log2 < 1920)
  | .str x => PyData.strOk x
  | .list xs => niceA xs
  | .tuple xs => niceA xs
  | .dict _ => false
def niceA : List PyData → Bool
  | [] => true
  | x :: r => nice x && niceA r
end
mutual
def wt : PyData → Nat
  | .none => 4
  | .bool _ => 5
  | .int _ => 1922
  | .str x => 10 * x.length + 2
  | .list xs => wtA xs + 3
  | .tuple xs => wtA xs + 3
  | .dict _ => 0
def wtA : List PyData → Nat
  | [] => 0
  | x :: r => wt x + 2 + wtA r
end
theorem niceA_iff : ∀ {xs : List PyData}, niceA xs = true ↔ ∀ x ∈ xs, nice x = true
  | [] => by simp [niceA]
  | x :: r => by simp [niceA, niceA_iff (xs := r)]
theorem niceA_app {xs ys : List PyData} (h1 : niceA xs = true) (h2 : niceA ys = true) : niceA (xs ++ ys) = true := niceA_iff.mpr fun x hx => (List.mem_append.mp hx).elim (niceA_iff.mp h1 x) (niceA_iff.mp h2 x)
theorem wtA_app : ∀ xs ys : List PyData, wtA (xs ++ ys) = wtA xs + wtA ys
  | [], ys => by simp [wtA]
  | x :: r, ys => by simp only [List.cons_append, wtA, wtA_app r ys]; omega
theorem wtA_le {c : Nat} : ∀ {xs : List PyData}, (∀ x ∈ xs, wt x ≤ c) → wtA xs ≤ (c + 2) * xs.length
  | [], _ => Nat.zero_le _
  | x :: r, h => by
    have h1 := wtA_le (xs := r) fun y hy => h y (List.mem_cons_of_mem _ hy)
    have h2 := h x List.mem_cons_self
    rw [wtA, List.length_cons, Nat.mul_succ]
    omega
theorem depthA_le {c : Nat} : ∀ {xs : List PyData}, (∀ x ∈ xs, x.depth ≤ c) → PyData.depthAll xs ≤ c
  | [], _ => by simp [PyData.depthAll]
  | x :: r, h => by
    simp only [PyData.depthAll]
    exact Nat.max_le.mpr ⟨h x List.mem_cons_self, depthA_le fun y hy => h y (List.mem_cons_of_mem _ hy)⟩
theorem join_le (sep : Str) : ∀ ts : List Str, (Str.join sep ts).length ≤ (ts.map fun t => t.length).sum + sep.length * ts.length
  | [] => Nat.zero_le _
  | [x] => by
    show x.length ≤ _
    simp
  | x :: y :: r => by
    have ih := join_le sep (y :: r)
    show (x ++ sep ++ Str.join sep (y :: r)).length ≤ _
    rw [strLen_append, strLen_append, List.map_cons, List.sum_cons, List.length_cons, Nat.mul_succ]
    omega
theorem tupleText_le (ts : List Str) : (tupleText ts).length ≤ (ts.map fun t => t.length).sum + 2 * ts.length + 3 := by
  unfold tupleText
  have h := join_le (Str.ofString ", ") ts
  have e : (Str.ofString ", ").length = 2 := by decide +kernel
  rw [e] at h
  rw [strLen_append, strLen_append]
  have e1 : (Str.ofString "(").length = 1 := by decide +kernel
  rw [e1]
  split
  · have e2 : (Str.ofString ",)").length = 2 := by decide +kernel
    rw [e2]; omega
  · have e2 : (Str.ofString ")").length = 1 := by decide +kernel
    rw [e2]; omega
theorem listText_le (ts : List Str) : (listText ts).length ≤ (ts.map fun t => t.length).sum + 2 * ts.length + 3 := by
  have key : ∀ (ts : List Str) (i : Nat) (acc : Str), (textFrom i acc ts).length ≤ acc.length + (ts.map fun t => t.length).sum + 2 * ts.length := fun ts => by
    induction ts with
    | nil => intro i acc; exact Nat.le_refl _
    | cons t r ih =>
      intro i acc
      unfold textFrom
      refine Nat.le_trans (ih _ _) ?_
      have e : (Str.ofString ", ").length = 2 := by decide +kernel
      rw [List.map_cons, List.sum_cons, List.length_cons, strLen_append]
      split
      · rw [strLen_append, e]; omega
      · rw [strLen_append]
        have e0 : (Str.ofString "").length = 0 := by decide +kernel
        rw [e0]; omega
  unfold listText
  have h := key ts 0 (Str.ofString "[")
  rw [strLen_append]
  have e1 : (Str.ofString "[").length = 1 := by decide +kernel
  have e2 : (Str.ofString "]").length = 1 := by decide +kernel
  rw [e1] at h
  rw [e2]; omega
mutual
theorem shown_le : ∀ d : PyData, nice d = true → d.shown.length ≤ wt d
  | .none, _ => by simp only [PyData.shown, wt]; decide +kernel
  | .bool b, _ => by cases b <;> simp only [PyData.shown, wt] <;> decide +kernel
  | .int i, h => by
    simp only [PyData.shown, wt]
    rw [PySem.ofString_length]
    have h : i.natAbs.log2 < 1920 := by simpa [nice] using h
    have := int_text_length_le (by decide) h
    omega
  | .str x, h => by
    simp only [PyData.shown, wt]
    refine PySem.StrLaws.reprText_len x fun c hc => ?_
    have h : PyData.strOk x = true := by simpa [nice] using h
    unfold PyData.strOk at h
    have h := (Array.all_eq_true_iff_forall_mem.mp h) c (Array.mem_toList_iff.mp hc)
    have h : c < 1114112 := by simpa using h
    omega
  | .list xs, h => by
    simp only [PyData.shown, wt]
    have h1 := listText_le (PyData.shownAll xs)
    have h2 := shownA_le xs (by simpa [nice] using h)
    omega
  | .tuple xs, h => by
    simp only [PyData.shown, wt]
    have h1 := tupleText_le (PyData.shownAll xs)
    have h2 := shownA_le xs (by simpa [nice] using h)
    omega
  | .dict _, h => by simp [nice] at h
theorem shownA_le : ∀ xs : List PyData, niceA xs = true → ((PyData.shownAll xs).map fun t => t.length).sum + 2 * (PyData.shownAll xs).length ≤ wtA xs
  | [], _ => by simp [PyData.shownAll, wtA]
  | x :: r, h => by
    have h : nice x = true ∧ niceA r = true := by simpa [niceA] using h
    have h1 := shown_le x h.1
    have h2 := shownA_le r h.2
    simp only [PyData.shownAll, List.map_cons, List.sum_cons, List.length_cons, wtA]
    omega
end
mutual
theorem nice_show : ∀ d : PyData, nice d = true → d.showable = true ∧ d.hasDict = false
  | .none, _ => ⟨rfl, rfl⟩
  | .bool _, _ => ⟨rfl, rfl⟩
  | .int i, h => ⟨by simpa [nice, PyData.showable] using h, rfl⟩
  | .str _, _ => ⟨rfl, rfl⟩
  | .list xs, h => by
    simp only [PyData.showable, PyData.hasDict]
    exact niceA_show xs (by simpa [nice] using h)
  | .tuple xs, h => by
    simp only [PyData.showable, PyData.hasDict]
    exact niceA_show xs (by simpa [nice] using h)
  | .dict _, h => by simp [nice] at h
theorem niceA_show : ∀ xs : List PyData, niceA xs = true → PyData.showableAll xs = true ∧ PyData.hasDictAll xs = false
  | [], _ => ⟨rfl, rfl⟩
  | x :: r, h => by
    have h : nice x = true ∧ niceA r = true := by simpa [niceA] using h
    have h1 := nice_show x h.1
    have h2 := niceA_show r h.2
    simp only [PyData.showableAll, PyData.hasDictAll, h1.1, h1.2, h2.1, h2.2]
    exact ⟨rfl, rfl⟩
end
theorem shows_of {d : PyData} (h : nice d = true) (hd : d.depth ≤ 100) (hw : wt d ≤ 1000000) : shows d :=
  ⟨(nice_show d h).1, (nice_show d h).2, hd, Nat.le_trans (shown_le d h) (Nat.le_trans hw (by decide))⟩
mutual
theorem nice_plain : ∀ d : PyData, nice d = true → PyData.plain d = true
  | .none, _ => rfl
  | .bool _, _ => rfl
  | .int _, _ => rfl
  | .str _, _ => rfl
  | .list xs, h => by
    simp only [PyData.plain]
    exact niceA_plain xs (by simpa [nice] using h)
  | .tuple xs, h => by
    simp only [PyData.plain]
    exact niceA_plain xs (by simpa [nice] using h)
  | .dict _, h => by simp [nice] at h
theorem niceA_plain : ∀ xs : List PyData, niceA xs = true → PyData.plainAll xs = true
  | [], _ => rfl
  | x :: r, h => by
    have h : nice x = true ∧ niceA r = true := by simpa [niceA] using h
    simp only [PyData.plainAll, nice_plain x h.1, niceA_plain r h.2, Bool.and_self]
end
theorem okD_nice {d : PyData} (h : nice d = true) (hd : d.depth ≤ 64) : okD d = true := by
  unfold okD
  rw [nice_plain d h, decide_eq_true hd]
  rfl
/-- the texts of the same value are the same -/
theorem eqv_refl_s (x : Str) : PyData.eqv (.str x) (.str x) = true := by rw [eqv_s]; exact decide_eq_true rfl
theorem nice_int {i : Int} (h : i.natAbs < 2 ^ 1900) : nice (.int i) = true := by
  simp only [nice]
  refine decide_eq_true ?_
  by_cases z : i.natAbs = 0
  · rw [z]
    decide
  · have h1 : i.natAbs.log2 < 1900 := (Nat.log2_lt z).mpr h
    omega
theorem nice_nat {n : Nat} (h : n ≤ 10 ^ 60) : nice (.int (n : Int)) = true := nice_int (by
  have e : ((n : Int)).natAbs = n := Int.natAbs_natCast n
  rw [e]
  have : (10 : Nat) ^ 60 < 2 ^ 200 := by decide
  have h2 : (2 : Nat) ^ 200 ≤ 2 ^ 1900 := Nat.pow_le_pow_right (by decide) (by decide)
  omega)
end Ev

namespace Ev
open PySem PySem.Spec PyProof.Rows L2
theorem if_no {p q : Prop} (h : q) : if false = true then p else q := h
theorem if_yes {p q : Prop} (h : p) : if true = true then p else q := h
theorem isOwn_d {x : PyData} : isOwn (.d x) = false := rfl
theorem isOwn_dk : isOwn .dk = false := rfl
theorem isOwn_un : isOwn .un = false := rfl
theorem noOwn_get {ss : List S} (h : noOwn ss = true) {i : Nat} {xs : List PyData} (e : ss[i]? = some (.own xs)) : False := by
  unfold noOwn at h
  rw [List.any_eq_true.mpr ⟨_, List.mem_of_getElem? e, rfl⟩] at h
  cases h
theorem okW_no {ss : List S} (h : noOwn ss = true) (vs : List Nat) : okW ss vs = true := List.all_eq_true.mpr fun i _ => by
  cases e : ss[i]? with
  | none => rfl
  | some s =>
    cases s with
    | own xs => exact (noOwn_get h e).elim
    | _ => rfl
theorem noOwn_iff {ss : List S} : noOwn ss = true ↔ ∀ s ∈ ss, isOwn s = false := by
  unfold noOwn
  rw [Bool.not_eq_true', List.any_eq_false]
  exact ⟨fun h s hs => by simpa using h s hs, fun h s hs => by simp [h s hs]⟩
theorem noOwn_drop {ss : List S} (h : noOwn ss = true) (i : Nat) : noOwn (ss.drop i) = true := noOwn_iff.mpr fun s hs => noOwn_iff.mp h s (List.mem_of_mem_drop hs)
section
variable {X : Cx} {K : PySem.W.Frag} {tg e a b c iter elt : Expr} {es ifs : List Expr} {t ta tb tc te : TE} {tt tu : TT} {tA : TA} {p pa pb pc pe : DE} {pt pu : DT} {pA : DA} {pos apos : Pos} {st : Stmt} {sts sts' : List Stmt} {ts tz : TS} {q r : DS}
/-! ### a comprehension's list kept as plain data -/
theorem lf_set {i : Nat} (h : Lf t p) : LfS (tAsg t (gName i)) (dSet i p) := fun g H0 σ H ss n w D DD k hp E => h g H0 σ H ss n w _ _ k hp fun d n' v H' h1 e1 k1 r1 =>
  E.nx _ _ _ _ _ (k1.put (k1.strong r1 h1.1)) (fun b o q => drp_same _ _ (hw_ed k.wdk e1 b o q)) h1.2
theorem lf_ofL {pl : DL} (h : LfL t pl) : Lf t (dOfL pl) := fun g H0 σ H ss n w Q Q1 k hp q => h g H0 σ H ss n w _ _ k hp fun xs n' a vs H' h1 e1 k1 f1 g1 r1 =>
  q _ _ _ _ h1 e1 k1 (.lst (hw_some.mpr ⟨k.hd.none f1, g1⟩) r1)
theorem s_setLcD {i : Nat} {y : Str} {py spos : Pos} {scope : Scope} {own : List (Str × Nat)} {wi : TI} {pi : DI} {gt : TG} {is : List Nat} {pg : DG} (hc : X.calm = true) (hN : X.N.Nodup) (hy : X.N[i]? = some y) (hyl : X.env.scope.names.lookup y = some .local)
    (hi : PLIc X tg iter wi pi) (ok : BlkOk X.N X.env.scope scope own)
    (hg : ∀ (s : Shared) (H : Hp) (C : Addr) (cl : List (Str × Addr)) (fp : List Addr), PLTg (X.blk s H scope (compEnvC scope cl C X.env) fp) tg gt is pg) (ht : ∀ (s : Shared) (H : Hp) (C : Addr) (cl : List (Str × Addr)) (fp : List Addr), PLTs (X.blk s H scope (compEnvC scope cl C X.env) fp) ifs tt pt)
    (he : ∀ (s : Shared) (H : Hp) (C : Addr) (cl : List (Str × Addr)) (fp : List Addr), PL (X.blk s H scope (compEnvC scope cl C X.env) fp) elt te pe) (hsw : swapsWith (.ListComp elt [⟨tg, iter, ifs, 0⟩] scope pos) (some (.Name y py)) spos.line X.env = pure true)
    (hv : ∀ i ∈ is, i ∈ own.map (·.2) := by decide) (hs : ∀ x, foldedSetIterable iter X.env x = pure x := by intro _; rfl) :
    PLS X (.Assign [.Name y py] (.ListComp elt [⟨tg, iter, ifs, 0⟩] scope pos) spos) (tAsg (tLc wi gt tt te (own.map (·.2))) (gName i)) (dSet i (dOfL (dLc pi pg pt pe (own.map (·.2))))) :=
  ⟨ps_setLc hc hN hy hyl hsw hi.pi ok (fun s H C cl fp => (hg s H C cl fp).pg) (fun s H C cl fp => (ht s H C cl fp).pt) (fun s H C cl fp => (he s H C cl fp).pe) hs,
    lf_set (lf_ofL (lf_lc hi.lf (hg X.s_0 X.H_0 0 [] []).lf (ht X.s_0 X.H_0 0 [] []).lf (he X.s_0 X.H_0 0 [] []).lf hv))⟩
theorem k_zipM {p0 tpos : Pos} {elts : List Expr} {kk : Nat} (hK : X.K = K) (hg : Gl X "zip") (hm : X.mg "zip" = none) (ha : PLA X [a, b] tA pA) (hs : starEach [a, b] X.env = (false, eval a X.env) :: starEach [b] X.env := by rfl) (hpl : (backTo pos (starEach [b] X.env)).any (·.1) = false := by rfl) :
    PLI X (.Tuple elts kk tpos) (.Call (.Name "zip" p0) [a, b] [] pos) (iZipM K tA) (diZipM pA) := by subst hK; exact i_zipM hg hm ha hs hpl
/-! ### a list of the def's own, from here on left as it is -/
def dFrz (i : Nat) (q : DS) : DS := fun DD ss n => ∃ xs, ss[i]? = some (.own xs) ∧ q DD (ss.set i (.d (.list xs))) n
theorem Ok.frz {g : Gd} {H0 H : Hp} {σ : L2.St} {ss : List S} {n : Nat} {w : Addr → Option Nat} (k : Ok g H0 σ H ss n w) {i : Nat} {xs : List PyData} (h : ss[i]? = some (.own xs)) : Ok g H0 σ H (ss.set i (.d (.list xs))) n (drp w g.h i) := by
  have hl := lt_of_get h
  obtain ⟨a, vs, h1, h2, h3, h4, h5⟩ := k.sl i _ h
  refine ⟨by rw [List.length_set, k.len], k.ed, k.deck, drp_ext k.ext, k.hx, fun b hb => ?_, fun j s hs => ?_⟩
  · obtain ⟨j, hj⟩ := Option.isSome_iff_exists.mp hb
    obtain ⟨z1, z2⟩ := drp_some hj
    rcases z2 with z2 | z2
    · exact .inl z2
    · rcases k.hid b (by rw [z1]; rfl) with e | ⟨f1, f2, j', ys, e3, e4, e5⟩
      · exact .inl e
      · have : j' = j := Option.some.inj (e3.symm.trans z1)
        subst this
        exact .inr ⟨f1, f2, j', ys, hj, by rw [List.getElem?_set_ne (Ne.symm z2)]; exact e4, e5⟩
  · by_cases e : i = j
    · subst e
      rw [List.getElem?_set_self hl] at hs
      cases hs
      refine ⟨_, h1, .lst (hw_some.mpr ⟨?_, h4⟩) (h5.same drp_same)⟩
      unfold drp
      rw [if_pos ⟨h3, h2⟩]
    · rw [List.getElem?_set_ne e] at hs
      have q := k.sl j s hs
      cases s with
      | d x => obtain ⟨v, h1, h2⟩ := q; exact ⟨v, h1, h2.same drp_same⟩
      | own ys => obtain ⟨b, us, e1, e2, e3, e4, e5⟩ := q; exact ⟨b, us, e1, drp_of e2 (Ne.symm e), e3, e4, e5.same drp_same⟩
      | dk => exact q
      | un => trivial
theorem s_frz (i : Nat) (h : PLS X st ts q) : PLS X st ts (dFrz i q) := ⟨h.ps, fun g H0 σ H ss n w D DD k hp E => by
  obtain ⟨xs, hx, hp⟩ := hp
  exact h.lf g H0 σ H _ n _ D DD (k.frz hx) hp (E.mono drp_same)⟩
/-- over a variable that holds data -/
def diVar (i : Nat) : DI := fun ss n Q => ∃ d, ss[i]? = some (.d d) ∧ isSeq d = true ∧ Q (itemsOf d) n
theorem k_var (i : Nat) {x : Str} {p1 : Pos} (hK : X.K = K) (ho : PL X (.Name x p1) (tVar i) (dVar i)) : PLI X tg (.Name x p1) (iSeq K (tVar i)) (diVar i) := by
  subst hK
  refine ⟨pi_seq ho.pe, fun g H0 σ H ss n w R Q1 k h q => ?_⟩
  obtain ⟨d, hd, hs, h⟩ := h
  obtain ⟨v, h1, h2⟩ := k.var hd
  refine ⟨v, h1, ?_⟩
  cases h2 with
  | @lst a vs ds ha hA => exact ⟨a, rfl, .inl ⟨⟨vs, SqL.of (hsub ha)⟩, q _ _ _ _ h (Ed.refl _ _) k (walks_list ha hA)⟩⟩
  | @tup a vs ds ha hA => exact ⟨a, rfl, .inr ⟨⟨vs, SqT.of (hsub ha)⟩, q _ _ _ _ h (Ed.refl _ _) k (walks_tup ha hA)⟩⟩
  | _ => cases hs
/-- a, b = e1, e2, the second a new list: the def's own -/
def dParL (i j : Nat) (p : DE) (q : DL) : DS := fun DD ss n => p ss n fun d n1 => q ss n1 fun ys n2 => i ≠ j ∧ j < ss.length ∧ canD ss d ∧ NLA ys = true ∧ DD.nx ((ss.set i (.d d)).set j (.own ys)) n2
theorem s_parL {i j : Nat} {x y : Str} {px py pt' : Pos} {kt k2 : Nat} {pt2 : Pos} {ql : DL} (hc : X.calm = true) (hN : X.N.Nodup) (hi : X.N[i]? = some x) (hj : X.N[j]? = some y) (hij : i ≠ j) (hx : List.lookup x X.env.scope.names = some .local) (hy : List.lookup y X.env.scope.names = some .local)
    (ha : PL X a ta pa) (hb : PLL X b tb ql) (hs : starEach [a, b] X.env = (false, eval a X.env) :: starEach [b] X.env := by rfl) (hs2 : starEach [b] X.env = (false, eval b X.env) :: starEach [] X.env := by rfl)
    (hsw : swappedStores [.Tuple [.Name x px, .Name y py] kt pt'] (.Tuple [a, b] k2 pt2) X.env = pure (some [x, y]) := by rfl) (hsole : swapsWithSole [.Tuple [.Name x px, .Name y py] kt pt'] (.Tuple [a, b] k2 pt2) pos.line X.env = pure false := by rfl) :
    PLS X (.Assign [.Tuple [.Name x px, .Name y py] kt pt'] (.Tuple [a, b] k2 pt2) pos) (tPar i j (tCons ta (tCons tb tNil))) (dParL i j pa ql) :=
  ⟨ps_par hc hN hi hj hij hx hy (pa_cons ha.pe (pa_cons hb.pe pa_nil hs2) hs) hsw hsole, fun g H0 σ H ss n w D DD k h E => ha.lf g H0 σ H ss n w _ _ k h fun d n1 v H1 h1 e1 k1 r1 => hb.lf g H0 σ H1 ss n1 w _ _ k1 h1 fun ys n2 a us H2 h2 e2 k2 f2 g2 r2 => by
    obtain ⟨_, hl, c1, c2, h2⟩ := h2
    have s1 := k1.strong r1 c1
    have m1 := k1.put (i := i) s1
    have m2 := k2.put (i := i) (s1.same (hw_ed k1.wdk e2))
    obtain ⟨m3, s3⟩ := Ok.putNew m1 e2 m2 (i := j) (by rw [List.length_set]; exact hl) f2 g2 r2 (.inl c2)
    exact ⟨v, .ref a, rfl, E.nx _ _ _ _ _ m3 (fun b o q => s3 b o (drp_same _ _ (hw_ed k.wdk e1 b o q))) h2⟩⟩
/-- a, b = new list, new list / a new list first -/
def dParL1 (i j : Nat) (p : DL) (q : DE) : DS := fun DD ss n => p ss n fun ys n1 => q ss n1 fun d n2 => i ≠ j ∧ i < ss.length ∧ NLA ys = true ∧ NL d = true ∧ DD.nx ((ss.set i (.own ys)).set j (.d d)) n2
def qMax : List PyData → DP := fun ds Q => match ds with
  | [.int i, .int j] => Q (.int (if j > i then j else i))
  | _ => False
theorem qMax_i {i j : Int} {Q : PyData → Prop} : qMax [.int i, .int j] Q = Q (.int (if j > i then j else i)) := rfl
theorem b_max (hc : X.calm = true) : CB X (.builtin "max") (fun xs H Q => ∃ i j, xs = [V.int i, V.int j] ∧ Q (V.int (if j > i then j else i)) H) qMax := ⟨call_max2 hc, fun hh H xs ds Q Q1 hd h hq q => by
  cases h with
  | nil => exact hq.elim
  | cons h r =>
    cases r with
    | nil => cases h <;> exact hq.elim
    | cons h' r =>
      cases r with
      | cons _ _ => cases h <;> cases h' <;> exact hq.elim
      | nil =>
        cases h with
        | int i =>
          cases h' with
          | int j => exact ⟨i, j, rfl, q _ _ _ hq (Same.refl H) (.int _)⟩
          | _ => exact hq.elim
        | _ => cases h' <;> exact hq.elim⟩
/-! ### comprehensions over what is laid of Lean's lists -/
theorem lc_all {α : Type} {pi : DI} {pg : DG} {pt : DT} {pe : DE} {vs : List Nat} {ss : List S} {n : Nat} {Q : DLQ} (l : List α) (emb : α → PyData) (tst : α → Bool) (g : α → PyData) (n1 : Nat) (ho : okW ss vs = true) (hpi : ∀ R : List PyData → Nat → Prop, R (l.map emb) n1 → pi ss n R) (hl : l.length ≤ sizeLine)
    (he : ∀ a ∈ l, NL (g a) = true ∧ ∀ (R : DQ) (R' : Nat → Prop), (tst a = true → R (g a) n1) → (tst a = false → R' n1) → pg (emb a) (wipeS ss vs) n1 fun ss2 n2 => pt ss2 n2 fun b n3 => if b = true then pe ss2 n3 R else R' n3) (hq : Q ((l.filter tst).map g) n1) : dLc pi pg pt pe vs ss n Q := by
  refine ⟨ho, hpi _ ⟨fun i acc n' => acc = ((l.take i).filter tst).map g ∧ n' = n1, ⟨by simp, rfl⟩, fun i d acc n' hd ⟨e1, e2⟩ => ?_, fun acc n' ⟨e1, e2⟩ => ?_⟩⟩
  · subst e1 e2
    rw [List.getElem?_map] at hd
    obtain ⟨a, ha, rfl⟩ := Option.map_eq_some_iff.mp hd
    have hi := (List.getElem?_eq_some_iff.mp ha).1
    have tk : (l.take (i + 1)).filter tst = (l.take i).filter tst ++ [a].filter tst := by rw [List.take_add_one, ha, List.filter_append] <;> rfl
    obtain ⟨h1, h2⟩ := he a (List.mem_of_getElem? ha)
    have hfl : (((l.take i).filter tst).map g).length < sizeLine := by
      rw [List.length_map]
      have := List.length_filter_le tst (l.take i)
      rw [List.length_take] at this
      omega
    refine h2 _ (fun n3 => _ ∧ n3 = n') (fun ht => ⟨hfl, h1, ?_, rfl⟩) (fun ht => ⟨?_, rfl⟩)
    · rw [tk, List.map_append, List.filter_cons, if_pos ht] <;> rfl
    · rw [tk, List.filter_cons, if_neg (by rw [ht]; decide), List.filter_nil, List.append_nil]
  · subst e1 e2
    rw [List.length_map, List.take_length]
    exact hq
/-- each by a function -/
theorem lc_mapA {α : Type} {pi : DI} {pe : DE} {vs : List Nat} {ss : List S} {n : Nat} {Q : DLQ} {j : Nat} (l : List α) (emb : α → PyData) (g : α → PyData) (n1 : Nat) (ho : okW ss vs = true) (hpi : ∀ R : List PyData → Nat → Prop, R (l.map emb) n1 → pi ss n R) (hl : l.length ≤ sizeLine)
    (he : ∀ a ∈ l, NL (g a) = true ∧ ∀ R : DQ, R (g a) n1 → pe ((wipeS ss vs).set j (.d (emb a))) n1 R) (hq : Q (l.map g) n1) : dLc pi (dgName j) dYes pe vs ss n Q :=
  lc_all l emb (fun _ => true) g n1 ho hpi hl (fun a ha => ⟨(he a ha).1, fun R R' h1 _ => (he a ha).2 R (h1 rfl)⟩) (by rw [List.filter_eq_self.mpr fun _ _ => rfl]; exact hq)
/-- pairs taken apart -/
theorem lc_mapB {α : Type} {pi : DI} {pe : DE} {vs : List Nat} {ss : List S} {n : Nat} {Q : DLQ} {i j : Nat} (l : List α) (e1 e2 : α → PyData) (g : α → PyData) (n1 : Nat) (ho : okW ss vs = true) (hpi : ∀ R : List PyData → Nat → Prop, R (l.map fun a => .tuple [e1 a, e2 a]) n1 → pi ss n R) (hl : l.length ≤ sizeLine)
    (he : ∀ a ∈ l, NL (g a) = true ∧ ∀ R : DQ, R (g a) n1 → pe (((wipeS ss vs).set i (.d (e1 a))).set j (.d (e2 a))) n1 R) (hq : Q (l.map g) n1) : dLc pi (dgTup 2 (dgCons (dgName i) (dgCons (dgName j) dgNil))) dYes pe vs ss n Q :=
  lc_all l (fun a => .tuple [e1 a, e2 a]) (fun _ => true) g n1 ho hpi hl (fun a ha => ⟨(he a ha).1, fun R R' h1 _ => ⟨_, rfl, rfl, rfl, (he a ha).2 R (h1 rfl)⟩⟩) (by rw [List.filter_eq_self.mpr fun _ _ => rfl]; exact hq)
end
end Ev
namespace Ev
open PySem PySem.Spec PyProof.Rows L2
/-- a constant of the module -/
theorem l_globE {X : Cx} {x : Str} {i : Int} {pos : Pos} (hg : Gl X x) (hm : ∃ t, X.mg x = some (.int i t)) (hd : (x == ("__debug__" : Str)) = false := by decide) : PL X (.Name x pos) (tC (.int i)) (dC (.int i)) := by
  obtain ⟨t, hm⟩ := hm
  exact ⟨pe_glob hg hm ⟨_, rfl⟩ hd, lf_c fun _ => .int i⟩
end Ev

/-! isinstance of data; values that are apart from the def's own lists; extend, pop, lists unpacked -/
namespace Ev
open PySem PySem.Spec PyProof.Rows L2
/-! ### isinstance -/
inductive Kd where
  | int | bool | str | tuple | list
def Kd.nm : Kd → String
  | .int => "int"
  | .bool => "bool"
  | .str => "str"
  | .tuple => "tuple"
  | .list => "list"
def Kd.of : Kd → PyData → Bool
  | .int, .int _ => true
  | .int, .bool _ => true
  | .bool, .bool _ => true
  | .str, .str _ => true
  | .tuple, .tuple _ => true
  | .list, .list _ => true
  | _, _ => false
def tyN : PyData → String
  | .none => "NoneType"
  | .bool _ => "bool"
  | .int _ => "int"
  | .str _ => "str"
  | .list _ => "list"
  | .tuple _ => "tuple"
  | .dict _ => "dict"
theorem ty_of {K : PySem.W.Frag} {hh : Addr → Option Nat} {H : Hp} {v : V} {d : PyData} (h : Dq (hw hh H) v d) : TyX K H v (.type (tyN d)) := by
  cases h with
  | non => exact .base .non
  | bl b => exact .base (.bl b)
  | int i => exact .base (.int i)
  | str x => exact .base (.str x)
  | lst e _ => exact .base (.lst (hw_sub _ _ e))
  | tup e _ => exact .base (.tup (hw_sub _ _ e))
theorem kd_of {hh : Addr → Option Nat} {H : Hp} {v : V} {d : PyData} (h : Dq (hw hh H) v d) (k : Kd) : kitB (tyN d) k.nm = some (k.of d) := by
  cases h with
  | non => cases k <;> first | exact (show kitB "NoneType" _ = some true from by decide +kernel) | exact (show kitB "NoneType" _ = some false from by decide +kernel)
  | bl b => cases k <;> first | exact (show kitB "bool" _ = some true from by decide +kernel) | exact (show kitB "bool" _ = some false from by decide +kernel)
  | int i => cases k <;> first | exact (show kitB "int" _ = some true from by decide +kernel) | exact (show kitB "int" _ = some false from by decide +kernel)
  | str x => cases k <;> first | exact (show kitB "str" _ = some true from by decide +kernel) | exact (show kitB "str" _ = some false from by decide +kernel)
  | lst e _ => cases k <;> first | exact (show kitB "list" _ = some true from by decide +kernel) | exact (show kitB "list" _ = some false from by decide +kernel)
  | tup e _ => cases k <;> first | exact (show kitB "tuple" _ = some true from by decide +kernel) | exact (show kitB "tuple" _ = some false from by decide +kernel)
section
variable {X : Cx} {pos : Pos} {e a b : Expr} {ta tb : TE} {pa pb : DE}
def dIsi (k : Kd) (p : DE) : DE := fun ss n Q => p ss n fun d n' => Q (.bool (k.of d)) n'
theorem k_isi {K : PySem.W.Frag} (hK : X.K = K) (k : Kd) {y : Str} {p0 p1 : Pos} (hg : Gl X "isinstance") (hm : X.mg "isinstance" = none) (hg2 : Gl X y) (hm2 : X.mg y = none) (hv : bootBuiltins y = some (.type k.nm)) (ha : PL X a ta pa)
    (hn2 : y ≠ "__name__") (hdb2 : (y == ("__debug__" : Str)) = false)
    (he : starEach [a, .Name y p1] X.env = (false, eval a X.env) :: starEach [.Name y p1] X.env := by rfl) (he2 : starEach [.Name y p1] X.env = (false, eval (.Name y p1) X.env) :: starEach [] X.env := by rfl)
    (hpl : (backTo pos (starEach [.Name y p1] X.env)).any (·.1) = false := by rfl) :
    PL X (.Call (.Name "isinstance" p0) [a, .Name y p1] [] pos) (tCB (rIsi K) (tCons ta (tCons (tC (.ty k.nm)) tNil))) (dIsi k pa) := by
  subst hK
  refine ⟨pe_callB call_isi hg hm (by decide +kernel) (pa_cons ha.pe (pa_cons (pe_bltn hg2 hm2 hv (by exact rfl) hn2 hdb2) pa_nil he2) he) (by decide) (by decide) he hpl, fun g H0 σ H ss n w Q Q1 kk hp q => ?_⟩
  refine ha.lf g H0 σ H ss n w _ _ kk hp fun d n' v H' h1 e1 k1 r1 => ?_
  exact ⟨v, .ty k.nm, _, _, _, rfl, .ty _, ty_of r1, kit_ty (kd_of r1 k), q _ _ _ _ h1 e1 k1 (.bl _)⟩
end
/-! ### a value apart from the def's own lists: those are hidden, too -/
def unS : S → S
  | .own _ => .un
  | s => s
theorem unS_d {x : PyData} : unS (.d x) = .d x := rfl
theorem unS_own {xs : List PyData} : unS (.own xs) = .un := rfl
theorem unS_dk : unS .dk = .dk := rfl
theorem unS_un : unS .un = .un := rfl
section
variable {g : Gd} {H0 H H' : Hp} {σ : L2.St} {ss : List S} {n n' : Nat} {w : Addr → Option Nat}
theorem Ok.unown (k : Ok g H0 σ H ss n w) : Ok { g with h := w, hdk := k.wdk } H σ H (ss.map unS) n w := by
  refine ⟨by rw [List.length_map, k.len], Ed.refl _ _, k.deck, fun a q => q, fun a q => ?_, fun a q => .inl q, fun i s hs => ?_⟩
  · rcases k.hid a q with z | ⟨_, _, j, xs, _, h2, h3⟩
    · exact k.hd a z
    · obtain ⟨a', vs, e1, _, _, e2, _⟩ := k.sl j _ h2
      rw [h3] at e1
      cases e1
      exact ⟨vs, e2⟩
  · rw [List.getElem?_map] at hs
    obtain ⟨s0, h0, rfl⟩ := Option.map_eq_some_iff.mp hs
    have q := k.sl i s0 h0
    cases s0 with
    | d x => exact q
    | own xs => trivial
    | dk => exact q
    | un => trivial
theorem apart {t : TE} {p : DE} (l : Lf t p) {Q : VK} {Q1 : DQ} (k : Ok g H0 σ H ss n w) (h : p (ss.map unS) n Q1) (q : ∀ d n' v H', Q1 d n' → Ed g.dk H H' → Ok g H0 σ H' ss n' w → Dq (hw w H') v d → Q v H') : t σ H Q :=
  l { g with h := w, hdk := k.wdk } H σ H (ss.map unS) n w Q Q1 k.unown h fun d n' v H' h1 e1 k1 r1 => q d n' v H' h1 e1 (k.step e1 k1.deck) r1
end
section
variable {X : Cx} {pos : Pos} {e a b : Expr} {ta tb : TE} {pa pb : DE}
/-- x = e, data apart from the own lists -/
def dSetA (i : Nat) (p : DE) : DS := fun DD ss n => p (ss.map unS) n fun d n' => DD.nx (ss.set i (.d d)) n'
theorem s_setA {i : Nat} {x : Str} {pos' : Pos} (hN : X.N.Nodup) (hi : X.N[i]? = some x) (hx : L2.Loc X.env.scope x) (he : PL X e ta pa) (hsw : swapsWith e (some (.Name x pos')) pos.line X.env = pure false := by rfl)
    (hf : X.fn x = true ∨ X.env.scope.names.lookup x = some .local := by first | exact .inl rfl | exact .inr rfl) : PLS X (.Assign [.Name x pos'] e pos) (tAsg ta (gName i)) (dSetA i pa) :=
  ⟨ps_set hN hi hx he.pe hsw hf, fun g H0 σ H ss n w D DD k h E => apart he.lf k h fun d n' v H' h1 e1 k1 r1 =>
    E.nx _ _ _ _ _ (k1.put r1) (fun b o q => drp_same _ _ (hw_ed k.wdk e1 b o q)) h1⟩
def dAsgTA (p : DE) (pg : DG) : DS := fun DD ss n => p (ss.map unS) n fun d n' => pg d ss n' fun ss' n2 => DD.nx ss' n2
theorem s_asgTA {tg : TG} {is : List Nat} {pg : DG} {y : Expr} (he : PL X e ta pa) (hg : PLTg X y tg is pg) (hsw : swapsWithSole [y] e pos.line X.env = pure false := by rfl) (hst : swappedStores [y] e X.env = pure none := by rfl)
    (h1 : (assignEach [y] X.env).map (·.2) = [assign y X.env] := by rfl) : PLS X (.Assign [y] e pos) (tAsg ta tg) (dAsgTA pa pg) :=
  ⟨ps_asg he.pe hg.pg hsw hst h1, fun g H0 σ H ss n w D DD k h E => apart he.lf k h fun d n' v H' h1 e1 k1 r1 =>
    hg.lf g H0 σ H' ss n' w v d _ _ k1 r1 h1 fun σ' ss' w' k2 s2 _ h2 => E.nx _ _ _ _ _ k2 (fun b o q => s2 b o (hw_ed k.wdk e1 b o q)) h2⟩
def dAppA (i : Nat) (p : DE) : DS := fun DD ss n => ∃ xs, ss[i]? = some (.own xs) ∧ p (ss.map unS) n fun d n' => xs.length < sizeLine ∧ DD.nx (ss.set i (.own (xs ++ [d]))) n'
theorem s_appA {i : Nat} {x : Str} {p1 p2 p3 : Pos} (ho : PL X (.Name x p1) (tVar i) (dVar i)) (he : PL X e ta pa) (hfew : ((backTo p3 (starEach [e] X.env)).all (fun x => !x.1) && (backToKw p3 (keywordEach [] X.env)).all (fun x => x.1.isSome)
      && decide (([e] : List Expr).length + ([] : List Keyword).length + (if ([] : List Keyword).isEmpty then 0 else 1) < 30)) = true := by rfl) (hbase : attributeBase (.Name x p1) "append" X.env (eval (.Name x p1) X.env) = eval (.Name x p1) X.env := by rfl)
    (hline : (p2.endLine == p3.line) = true := by rfl) (hs : starEach [e] X.env = (false, eval e X.env) :: starEach [] X.env := by rfl) (hsw : swapsWith (.Call (.Attribute (.Name x p1) "append" p2) [e] [] p3) none pos.line X.env = pure false := by rfl) :
    PLS X (.Expr (.Call (.Attribute (.Name x p1) "append" p2) [e] [] p3) pos) (tDrop (tBM X.K "list" rAppend (tVar i) (tCons ta tNil))) (dAppA i pa) :=
  ⟨ps_expr (pe_bm PySem.F.plainAttrs_list PySem.F.slot_list_append PySem.F.type_list_append mt_append ho.pe (pa_cons he.pe pa_nil hs) hbase hfew hline hs rfl) hsw, fun g H0 σ H ss n w D DD k h E => by
  obtain ⟨xs, hx, h⟩ := h
  obtain ⟨a, vs, h1, h2, h3, h4, h5⟩ := k.sl i _ hx
  refine ⟨_, h1, .inl ⟨rfl, vs, SqL.of h4⟩, apart he.lf k h fun d n' v H' h6 e1 k1 r1 => ?_⟩
  obtain ⟨hz, hq⟩ := h6
  obtain ⟨a', vs', g1, g2, g3, g4, g5⟩ := k1.sl i _ hx
  rw [h1] at g1
  cases g1
  refine ⟨a, vs', v, rfl, rfl, g4, by rw [g5.len]; exact hz, ?_⟩
  obtain ⟨k2, s2⟩ := k1.turn (vs' := vs' ++ [v]) (xs := xs ++ [d]) (lt_of_get hx) h1 g2 g3 g4 (g5.app (.cons r1 .nil))
  exact E.nx _ _ _ _ _ k2 (fun b o q => s2 b o (hw_ed k.wdk e1 b o q)) hq⟩
/-- x.extend(e), e a list -/
def dExt (i : Nat) (p : DE) : DS := fun DD ss n => ∃ xs, ss[i]? = some (.own xs) ∧ p ss n fun d n' => ∃ zs, d = .list zs ∧ xs.length + zs.length ≤ sizeLine ∧ NLA zs = true ∧ DD.nx (ss.set i (.own (xs ++ zs))) n'
theorem s_ext {i : Nat} {x : Str} {p1 p2 p3 : Pos} (ho : PL X (.Name x p1) (tVar i) (dVar i)) (he : PL X e ta pa) (hfew : ((backTo p3 (starEach [e] X.env)).all (fun x => !x.1) && (backToKw p3 (keywordEach [] X.env)).all (fun x => x.1.isSome)
      && decide (([e] : List Expr).length + ([] : List Keyword).length + (if ([] : List Keyword).isEmpty then 0 else 1) < 30)) = true := by rfl) (hbase : attributeBase (.Name x p1) "extend" X.env (eval (.Name x p1) X.env) = eval (.Name x p1) X.env := by rfl)
    (hline : (p2.endLine == p3.line) = true := by rfl) (hs : starEach [e] X.env = (false, eval e X.env) :: starEach [] X.env := by rfl) (hsw : swapsWith (.Call (.Attribute (.Name x p1) "extend" p2) [e] [] p3) none pos.line X.env = pure false := by rfl) :
    PLS X (.Expr (.Call (.Attribute (.Name x p1) "extend" p2) [e] [] p3) pos) (tDrop (tBM X.K "list" rExtend (tVar i) (tCons ta tNil))) (dExt i pa) :=
  ⟨ps_expr (pe_bm PySem.F.plainAttrs_list PySem.F.slot_list_extend PySem.F.type_list_extend mt_extend ho.pe (pa_cons he.pe pa_nil hs) hbase hfew hline hs rfl) hsw, fun g H0 σ H ss n w D DD k h E => by
  obtain ⟨xs, hx, h⟩ := h
  obtain ⟨a, vs, h1, h2, h3, h4, h5⟩ := k.sl i _ hx
  refine ⟨_, h1, .inl ⟨rfl, vs, SqL.of h4⟩, he.lf g H0 σ H ss n w _ _ k h fun d n' v H' h6 e1 k1 r1 => ?_⟩
  obtain ⟨zs, rfl, hz, hn, hq⟩ := h6
  obtain ⟨a', vs', g1, g2, g3, g4, g5⟩ := k1.sl i _ hx
  rw [h1] at g1
  cases g1
  cases r1 with
  | @lst b us _ hb hA =>
    refine ⟨a, b, vs', us, rfl, rfl, g4, hw_sub _ _ hb, by rw [g5.len, hA.len]; exact hz, ?_⟩
    obtain ⟨k2, s2⟩ := k1.turn (vs' := vs' ++ us) (xs := xs ++ zs) (lt_of_get hx) h1 g2 g3 g4 (g5.app (k1.strongA hA (.inl hn)))
    exact E.nx _ _ _ _ _ k2 (fun b o q => s2 b o (hw_ed k.wdk e1 b o q)) hq⟩
/-- a, b = x.pop(), x a list of the def's own -/
def dPopT (i : Nat) (pg : DG) : DS := fun DD ss n => ∃ xs d, ss[i]? = some (.own (xs ++ [d])) ∧ pg d (ss.set i (.own xs)) n fun ss' n2 => DD.nx ss' n2
theorem s_popT {i : Nat} {x : Str} {p1 p2 p3 : Pos} {tg : TG} {is : List Nat} {pg : DG} {y : Expr} (ho : PL X (.Name x p1) (tVar i) (dVar i)) (hg : PLTg X y tg is pg)
    (hbase : attributeBase (.Name x p1) "pop" X.env (eval (.Name x p1) X.env) = eval (.Name x p1) X.env := by rfl) (hline : (p2.endLine == p3.line) = true := by rfl)
    (hsw : swapsWithSole [y] (.Call (.Attribute (.Name x p1) "pop" p2) [] [] p3) pos.line X.env = pure false := by rfl) (hst : swappedStores [y] (.Call (.Attribute (.Name x p1) "pop" p2) [] [] p3) X.env = pure none := by rfl)
    (h1 : (assignEach [y] X.env).map (·.2) = [assign y X.env] := by rfl) :
    PLS X (.Assign [y] (.Call (.Attribute (.Name x p1) "pop" p2) [] [] p3) pos) (tAsg (tBM0 X.K "list" rPop (tVar i)) tg) (dPopT i pg) :=
  ⟨ps_asg (pe_bm0 PySem.F.plainAttrs_list PySem.F.slot_list_pop PySem.F.type_list_pop mt_pop ho.pe hbase hline) hg.pg hsw hst h1, fun g H0 σ H ss n w D DD k h E => by
  obtain ⟨xs, d, hx, h⟩ := h
  obtain ⟨a, vs, h1, h2, h3, h4, h5⟩ := k.sl i _ hx
  obtain ⟨us, v, rfl, hA, hv⟩ : ∃ us v, vs = us ++ [v] ∧ DqA (hw w H) us xs ∧ Dq (hw w H) v d := by
    have hl := h5.len
    rw [List.length_append, List.length_singleton] at hl
    have e := List.take_append_drop xs.length vs
    have t := DqA.take xs.length h5
    have u := DqA.drop xs.length h5
    rw [List.take_left] at t
    rw [List.drop_left] at u
    generalize vs.drop xs.length = z at e u
    cases u with
    | cons q r =>
      cases r
      exact ⟨_, _, e.symm, t, q⟩
  refine ⟨_, h1, .inl ⟨rfl, _, SqL.of h4⟩, a, us ++ [v], v, rfl, rfl, h4, by simp, ?_⟩
  rw [List.dropLast_concat]
  obtain ⟨k2, s2⟩ := k.turn (vs' := us) (xs := xs) (lt_of_get hx) h1 h2 h3 h4 hA
  exact hg.lf g H0 σ _ _ n w v d _ _ k2 (hv.same s2) h fun σ' ss' w' k3 s3 _ h2 => E.nx _ _ _ _ _ k3 (fun b o q => s3 b o (s2 b o q)) h2⟩
/-- (a, b) of a list -/
def dgLst (n : Nat) (p : DGs) : DG := fun d ss m Q => ∃ ds, d = .list ds ∧ ds.length = n ∧ p ds ss m Q
theorem g_lst {es : List Expr} {k n : Nat} {tr : TGs} {is : List Nat} {pr : DGs} (hc : X.calm = true) (h : PLTgs X es tr is pr) (hn : (assignEach es X.env).length = n := by rfl) (hst : List.findIdx? (fun x => x.fst) (assignEach es X.env) = none := by rfl) :
    PLTg X (.Tuple es k pos) (gLst X.K n tr) is (dgLst n pr) := ⟨pg_lst hc h.pg hn hst, fun g H0 σ H ss m w v d Q Q1 kk r h' q => by
  obtain ⟨ds, rfl, hl, h'⟩ := h'
  cases r with
  | @lst a vs _ ha hA => exact ⟨a, vs, rfl, SqL.of (hw_sub _ _ ha), by rw [hA.len]; exact hl, h.lf g H0 σ H ss m w vs ds _ _ kk hA h' q⟩⟩
theorem k_lstT {K : PySem.W.Frag} (hK : X.K = K) {es : List Expr} {k n : Nat} {tr : TGs} {is : List Nat} {pr : DGs} (hc : X.calm = true) (h : PLTgs X es tr is pr) (hn : (assignEach es X.env).length = n := by rfl) (hst : List.findIdx? (fun x => x.fst) (assignEach es X.env) = none := by rfl) :
    PLTg X (.Tuple es k pos) (gLst K n tr) is (dgLst n pr) := by subst hK; exact g_lst hc h hn hst
/-- a, b = new list, new list -/
def dParLL (i j : Nat) (p q : DL) : DS := fun DD ss n => p ss n fun xs n1 => q ss n1 fun ys n2 => i ≠ j ∧ i < ss.length ∧ j < ss.length ∧ NLA xs = true ∧ NLA ys = true ∧ DD.nx ((ss.set i (.own xs)).set j (.own ys)) n2
theorem s_parLL {i j : Nat} {x y : Str} {px py pt' : Pos} {kt k2 : Nat} {pt2 : Pos} {ql pl : DL} (hc : X.calm = true) (hN : X.N.Nodup) (hi : X.N[i]? = some x) (hj : X.N[j]? = some y) (hij : i ≠ j) (hx : List.lookup x X.env.scope.names = some .local) (hy : List.lookup y X.env.scope.names = some .local)
    (ha : PLL X a ta pl) (hb : PLL X b tb ql) (hs : starEach [a, b] X.env = (false, eval a X.env) :: starEach [b] X.env := by rfl) (hs2 : starEach [b] X.env = (false, eval b X.env) :: starEach [] X.env := by rfl)
    (hsw : swappedStores [.Tuple [.Name x px, .Name y py] kt pt'] (.Tuple [a, b] k2 pt2) X.env = pure (some [x, y]) := by rfl) (hsole : swapsWithSole [.Tuple [.Name x px, .Name y py] kt pt'] (.Tuple [a, b] k2 pt2) pos.line X.env = pure false := by rfl) :
    PLS X (.Assign [.Tuple [.Name x px, .Name y py] kt pt'] (.Tuple [a, b] k2 pt2) pos) (tPar i j (tCons ta (tCons tb tNil))) (dParLL i j pl ql) :=
  ⟨ps_par hc hN hi hj hij hx hy (pa_cons ha.pe (pa_cons hb.pe pa_nil hs2) hs) hsw hsole, fun g H0 σ H ss n w D DD k h E => ha.lf g H0 σ H ss n w _ _ k h fun xs n1 a1 vs H1 h1 e1 k1 f1 g1 r1 => hb.lf g H0 σ H1 ss n1 w _ _ k1 h1 fun ys n2 a2 us H2 h2 e2 k2 f2 g2 r2 => by
    obtain ⟨_, hl, hl2, c1, c2, h2⟩ := h2
    have g12 := e2 _ _ (ne_free k.deck f1) g1
    obtain ⟨m1, s1⟩ := Ok.putNew k e1 k1 (i := i) hl f1 g1 r1 (.inl c1)
    obtain ⟨m2, _⟩ := Ok.putNew k (e1.trans e2) k2 (i := i) hl f1 g12 (r1.same (h0_ed e2)) (.inl c1)
    obtain ⟨m3, s3⟩ := Ok.putNew m1 e2 m2 (i := j) (by rw [List.length_set]; exact hl2) f2 g2 r2 (.inl c2)
    exact ⟨.ref a1, .ref a2, rfl, E.nx _ _ _ _ _ m3 (fun b o q => s3 b o (s1 b o q)) h2⟩⟩
end
/-! ### the sum of a list or a tuple -/
def rSum2 (K : PySem.W.Frag) : List V → Hp → VK → Prop := fun vs H Q => ∃ (a : Addr) (ns : List Int), vs = [V.ref a] ∧ (SqL K H a (ns.map V.int) ∨ SqT K H a (ns.map V.int)) ∧ Q (.int ns.sum) H
theorem cr_sum2 {X : Cx} (hc : X.calm = true) : CallR X (.builtin "sum") (rSum2 X.K) := by
  intro pins s σ H vs us Q I r h
  obtain ⟨a, ns, rfl, hs | hs, q⟩ := h
  · exact cr_sum hc pins s σ H _ us Q I r ⟨a, ns, rfl, hs, q⟩
  · obtain ⟨its, rv, ⟨o, ho, hcl, n, hd⟩, _⟩ := I.tuple hs
    rw [Vals.ref1 r]
    have hi := rv.ints
    obtain ⟨xs, hx⟩ := hi.allInts.items
    have hn : numsOf its.toArray.toList = ns := by rw [show its.toArray.toList = its from rfl, hi.numsOf]
    rw [hx] at hn hd
    rw [nums_intItems] at hn
    refine PySem.W.ktm_sumG (I.ok.hd hc) ⟨o, ho, hcl, n, hd⟩ fun h' tk t' hk => ⟨.int ns.sum, H, I.kept hk, ⟨t', ?_⟩, q⟩
    rw [preSum_eq, List.take_of_length_le (by simp), hn]
def qSum2 : List PyData → DP := fun ds Q => match ds with
  | [.list xs] => ∃ ns : List Int, xs = ns.map PyData.int ∧ Q (.int ns.sum)
  | [.tuple xs] => ∃ ns : List Int, xs = ns.map PyData.int ∧ Q (.int ns.sum)
  | _ => False
theorem qSum2_l {xs : List PyData} {Q : PyData → Prop} : qSum2 [.list xs] Q = ∃ ns : List Int, xs = ns.map PyData.int ∧ Q (.int ns.sum) := rfl
theorem qSum2_t {xs : List PyData} {Q : PyData → Prop} : qSum2 [.tuple xs] Q = ∃ ns : List Int, xs = ns.map PyData.int ∧ Q (.int ns.sum) := rfl
theorem kb_sum2 {X : Cx} {K : PySem.W.Frag} (hK : X.K = K) (hc : X.calm = true) : CB X (.builtin "sum") (rSum2 K) qSum2 := by
  subst hK
  exact ⟨cr_sum2 hc, fun hh H xs ds Q Q1 hd h hq q => by
  cases h with
  | nil => exact hq.elim
  | cons h r =>
    cases r with
    | cons _ _ => cases h <;> exact hq.elim
    | nil =>
      cases h with
      | @lst a vs ds ha hA =>
        obtain ⟨ns, rfl, hq⟩ := hq
        exact ⟨a, ns, rfl, .inl (by rw [← ints_of hA]; exact SqL.of (hw_sub _ _ ha)), q _ _ _ hq (Same.refl H) (.int _)⟩
      | @tup a vs ds ha hA =>
        obtain ⟨ns, rfl, hq⟩ := hq
        exact ⟨a, ns, rfl, .inr (by rw [← ints_of hA]; exact SqT.of (hw_sub _ _ ha)), q _ _ _ hq (Same.refl H) (.int _)⟩
      | _ => exact hq.elim⟩
end Ev

/-! comprehensions whose items may hold lists -/
namespace Ev
open PySem PySem.Spec PyProof.Rows L2
section
variable {g : Gd} {H0 H1 H : Hp} {σ : L2.St} {ss : List S} {n n' : Nat} {w : Addr → Option Nat}
theorem own1_some {a D : Addr} (h : (w a).isSome) : (own1 w D 0 a).isSome := by
  unfold own1
  split
  · rfl
  · exact h
/-- all own lists hidden, and one that is new -/
def _root_.Ev.Gd.veil (g : Gd) (w : Addr → Option Nat) (D : Addr) (h : (w g.dk).isSome) : Gd := { g with h := own1 w D 0, hdk := own1_some h }
theorem Ok.veil (k : Ok g H0 σ H1 ss n w) {D : Addr} (hn : H1 D = none) (e : Ed g.dk H1 H) (d : Deck g n' H) {us : List V} (hD : H D = some (.lst us)) : Ok (g.veil w D k.wdk) H σ H (ss.map unS) n' (own1 w D 0) := by
  have k' := k.step e d
  have hs := hw_own1 (i := 0) hn (hw_ed k.wdk e)
  refine ⟨by rw [List.length_map, k.len], Ed.refl _ _, d, fun a q => q, fun a q => ?_, fun a q => .inl q, fun i s h => ?_⟩
  · have q : (own1 w D 0 a).isSome := q
    unfold own1 at q
    by_cases z : a = D
    · rw [z]; exact ⟨us, hD⟩
    · rw [if_neg z] at q
      exact k'.unown.hx a q
  · rw [List.getElem?_map] at h
    obtain ⟨s0, h0, rfl⟩ := Option.map_eq_some_iff.mp h
    have q := k.sl i s0 h0
    cases s0 with
    | d x => obtain ⟨v, h1, h2⟩ := q; exact ⟨v, h1, h2.same hs⟩
    | own xs => trivial
    | dk => exact q
    | un => trivial
theorem okW_un (ss : List S) (vs : List Nat) : okW (ss.map unS) vs = true := by
  refine List.all_eq_true.mpr fun i _ => ?_
  rw [List.getElem?_map]
  cases ss[i]? with
  | none => rfl
  | some s => cases s <;> rfl
end
/-! ### <= of numbers or of texts -/
def qLe2 : PyData → PyData → DP := fun x y Q => match x, y with
  | .int i, .int j => Q (.bool (decide (i ≤ j)))
  | .str a, .str b => Q (.bool (!decide (b.cps.toList < a.cps.toList)))
  | _, _ => False
theorem qLe2_i {i j : Int} {Q : PyData → Prop} : qLe2 (.int i) (.int j) Q = Q (.bool (decide (i ≤ j))) := rfl
theorem qLe2_s {a b : Str} {Q : PyData → Prop} : qLe2 (.str a) (.str b) Q = Q (.bool (!decide (b.cps.toList < a.cps.toList))) := rfl
def rLe2 : R2 := fun x y H Q => (∃ i j, x = V.int i ∧ y = V.int j ∧ Q (V.bl (decide (i ≤ j))) H) ∨ ∃ a b, x = V.str a ∧ y = V.str b ∧ Q (V.bl (!decide (b.cps.toList < a.cps.toList))) H
theorem c_le2 {X : Cx} : CR2 X .LtE rLe2 qLe2 := ⟨OpR.or op_le op_le_str, fun hh H x y d e Q Q1 hd hx hy h q => by
  cases hx with
  | int i =>
    cases hy with
    | int j => exact .inl ⟨i, j, rfl, rfl, q _ _ _ h (Same.refl H) (.bl _)⟩
    | _ => exact h.elim
  | str a =>
    cases hy with
    | str b => exact .inr ⟨a, b, rfl, rfl, q _ _ _ h (Same.refl H) (.bl _)⟩
    | _ => exact h.elim
  | _ => cases hy <;> exact h.elim⟩
section
variable {X : Cx} {tt : TT} {t : TE} {pt : DT} {p : DE}
def dLcA (pi : DI) (pg : DG) (pt : DT) (pe : DE) (vs : List Nat) : DL := fun ss n Q => pi ss n fun xs n1 => ∃ I : Nat → List PyData → Nat → Prop, I 0 [] n1 ∧
  (∀ i d acc n', xs[i]? = some d → I i acc n' → pg d (wipeS (ss.map unS) vs) n' fun ss2 n2 => pt ss2 n2 fun b n3 => if b = true then pe ss2 n3 fun y n4 => acc.length < sizeLine ∧ I (i + 1) (acc ++ [y]) n4 else I (i + 1) acc n3) ∧ ∀ acc n', I xs.length acc n' → Q acc n'
theorem lf_lcA {wi : TI} {pi : DI} {tg : TG} {is : List Nat} {pg : DG} {vs : List Nat} (h1 : LfI wi pi) (h2 : LfG tg is pg) (h3 : LfT tt pt) (h4 : Lf t p) (hv : ∀ i ∈ is, i ∈ vs) : LfL (tLc wi tg tt t vs) (dLcA pi pg pt p vs) := fun g H0 σ H ss n w Q Q1 k h q => by
  refine h1 g H0 σ H ss n w _ _ k h fun xs n1 H1 J hI e1 k1 W => ?_
  obtain ⟨I, i0, step, done⟩ := hI
  intro Dl hD
  have hDdk : Dl ≠ g.dk := ne_free k1.deck hD
  have hwD : own1 w Dl 0 Dl = some 0 := by unfold own1; rw [if_pos rfl]
  have hdk : (own1 w Dl 0 g.dk).isSome := (g.veil w Dl k1.wdk).hdk
  have hcD : g.c ≠ Dl := fun z => by
    obtain ⟨_, _, z2, _⟩ := k1.deck
    rw [z, hD] at z2
    cases z2
  refine ⟨fun i m H' => m = xs.length - i ∧ i ≤ xs.length ∧ ∃ acc n' us, Ed g.dk H1 H' ∧ Deck g n' H' ∧ H' Dl = some (.lst us) ∧ DqA (hw (own1 w Dl 0) H') us acc ∧ I i acc n', ⟨_, rfl, Nat.zero_le _, [], n1, [], Ed.of (same_new _ hD), k1.deck.same (same_new _ hD), upd_same, .nil, i0⟩,
    fun i m H' ⟨hm, hi, acc, n', us, e', d', hDl, hA, hI⟩ => ?_⟩
  have k' := k1.step e' d'
  obtain ⟨go, yld, stop⟩ := W H' (own1 w Dl 0) (hw_own1 hD (hw_ed k1.wdk e')) hdk (ne_dk d')
  by_cases hlt : i < xs.length
  · refine .inr ⟨go i hlt, fun H2 => ∃ acc n' us, Ed g.dk H1 H2 ∧ Deck g n' H2 ∧ H2 Dl = some (.lst us) ∧ DqA (hw (own1 w Dl 0) H2) us acc ∧ I (i + 1) acc n', fun H2 z => ⟨xs.length - (i + 1), by omega, rfl, hlt, z⟩, fun x H2 hy => ?_⟩
    obtain ⟨sm, item⟩ := yld i x H2 hy hlt
    have e2 : Ed g.dk H1 H2 := e'.trans (Ed.of sm)
    have hD2 := sm _ _ hDl
    have k2 := (k1.veil hD e2 (d'.same sm) hD2).wiped (okW_un ss vs)
    have r2 := item _ (List.getElem?_eq_getElem hlt) fun p hp => by
      unfold own1
      have : p ≠ Dl := fun z => by rw [z, hDl] at hp; cases hp
      rw [if_neg this]
      exact k'.free hp
    refine h2 _ H2 (wipe σ vs) H2 (wipeS (ss.map unS) vs) n' _ x _ _ _ k2 r2 (step i _ acc n' (List.getElem?_eq_getElem hlt) hI) fun σ3 ss3 w3 k3 s3 f3 hq => ?_
    have ww : wipe (wipe σ vs) vs = wipe σ vs := by
      have : ∀ us : List Nat, (∀ i ∈ us, i ∈ vs) → wipe (wipe σ us) vs = wipe σ vs := fun us => by
        induction us with
        | nil => exact fun _ => rfl
        | cons u r ih =>
          intro hu
          show wipe ((wipe σ r).set u none) vs = wipe σ vs
          rw [wipe_set (hu u List.mem_cons_self), ih fun i hi => hu i (List.mem_cons_of_mem _ hi)]
      exact this vs fun i hi => hi
    refine ⟨(f3 vs hv).trans ww, h3 _ H2 σ3 H2 ss3 n' w3 _ _ k3 hq fun b n3 H3 hb e3 k3' => ?_⟩
    have e3 : Ed g.dk H2 H3 := e3
    have hD3 : H3 Dl = some (.lst us) := e3 _ _ hDdk hD2
    have hA3 := hA.same (hw_ed hdk ((Ed.of sm).trans e3))
    cases b with
    | true =>
      rw [if_pos rfl] at hb ⊢
      refine h4 _ H2 σ3 H3 ss3 n3 w3 _ _ k3' hb fun y n4 v H4 hy4 e4 k4 r4 => ?_
      have e4 : Ed g.dk H3 H4 := e4
      have hD4 : H4 Dl = some (.lst us) := e4 _ _ hDdk hD3
      have r4 : Dq (hw (own1 w Dl 0) H4) v y := r4
      have hA4 := (hA3.same (hw_ed hdk e4)).app (.cons r4 .nil)
      have e14 : Ed g.dk H1 (upd H4 Dl (.lst (us ++ [v]))) := fun b o hb qb => by
        have : b ≠ Dl := fun z => by rw [z, hD] at qb; cases qb
        rw [upd_ne this]
        exact (e2.trans (e3.trans e4)) b o hb qb
      refine ⟨us, hD4, by rw [hA3.len]; exact hy4.1, acc ++ [y], n4, us ++ [v], e14, ?_, upd_same, ?_, hy4.2⟩
      · obtain ⟨d1, d2, d3, pp, qq, d4, d5⟩ := k4.deck
        exact ⟨d1, d2, by rw [upd_ne hcD]; exact d3, pp, qq, d4, by rw [upd_ne (Ne.symm hDdk)]; exact d5⟩
      · refine hA4.same fun b o qb => ?_
        obtain ⟨q1, q2⟩ := hw_some.mp qb
        have e : b ≠ Dl := fun z => by
          rw [z, hwD] at q1
          cases q1
        exact hw_some.mpr ⟨q1, by rw [upd_ne e]; exact q2⟩
    | false =>
      rw [if_neg Bool.false_ne_true] at hb ⊢
      exact ⟨acc, n3, us, e2.trans e3, k3'.deck, hD3, hA3, hb⟩
  · have e : i = xs.length := by omega
    subst e
    refine .inl ⟨stop, q acc n' Dl us H' (done acc n' hI) (e1.trans e') k' (free_of e1 (ne_dk k1.deck) hD) hDl (hA.same (hw_h0 fun a ha => ?_))⟩
    unfold own1
    split
    · rfl
    · exact k1.ext a ha
end
section
variable {X : Cx} {pos : Pos} {tg iter elt : Expr} {ifs : List Expr} {tt : TT} {te : TE} {pt : DT} {pe : DE}
theorem f_lcA {scope : Scope} {own : List (Str × Nat)} {wi : TI} {pi : DI} {gt : TG} {is : List Nat} {pg : DG} (hc : X.calm = true) (hN : X.N.Nodup) (hi : PLI X tg iter wi pi) (ok : BlkOk X.N X.env.scope scope own)
    (hg : ∀ (s : Shared) (H : Hp) (C : Addr) (cl : List (Str × Addr)) (fp : List Addr), PLTg (X.blk s H scope (compEnvC scope cl C X.env) fp) tg gt is pg) (ht : ∀ (s : Shared) (H : Hp) (C : Addr) (cl : List (Str × Addr)) (fp : List Addr), PLTs (X.blk s H scope (compEnvC scope cl C X.env) fp) ifs tt pt)
    (he : ∀ (s : Shared) (H : Hp) (C : Addr) (cl : List (Str × Addr)) (fp : List Addr), PL (X.blk s H scope (compEnvC scope cl C X.env) fp) elt te pe) (hv : ∀ i ∈ is, i ∈ own.map (·.2) := by decide) (hs : ∀ x, foldedSetIterable iter X.env x = pure x := by intro _; rfl) :
    PLL X (.ListComp elt [⟨tg, iter, ifs, 0⟩] scope pos) (tLc wi gt tt te (own.map (·.2))) (dLcA pi pg pt pe (own.map (·.2))) :=
  ⟨pe_lc hc hN hi.pi ok (fun s H C cl fp => (hg s H C cl fp).pg) (fun s H C cl fp => (ht s H C cl fp).pt) (fun s H C cl fp => (he s H C cl fp).pe) hs,
    lf_lcA hi.lf (hg X.s_0 X.H_0 0 [] []).lf (ht X.s_0 X.H_0 0 [] []).lf (he X.s_0 X.H_0 0 [] []).lf hv⟩
/-- a walk over data with a test, items any -/
theorem lc_allA {α : Type} {pi : DI} {pg : DG} {vs : List Nat} {ss : List S} {n : Nat} {Q : DLQ} (l : List α) (emb : α → PyData) (tst : α → Bool) (g : α → PyData) (n1 : Nat) (hpi : ∀ R : List PyData → Nat → Prop, R (l.map emb) n1 → pi ss n R) (hl : l.length ≤ sizeLine)
    (he : ∀ a ∈ l, ∀ (R : DQ) (R' : Nat → Prop), (tst a = true → R (g a) n1) → (tst a = false → R' n1) → pg (emb a) (wipeS (ss.map unS) vs) n1 fun ss2 n2 => pt ss2 n2 fun b n3 => if b = true then pe ss2 n3 R else R' n3) (hq : Q ((l.filter tst).map g) n1) : dLcA pi pg pt pe vs ss n Q := by
  refine hpi _ ⟨fun i acc n' => acc = ((l.take i).filter tst).map g ∧ n' = n1, ⟨by simp, rfl⟩, fun i d acc n' hd ⟨e1, e2⟩ => ?_, fun acc n' ⟨e1, e2⟩ => ?_⟩
  · subst e1 e2
    rw [List.getElem?_map] at hd
    obtain ⟨a, ha, rfl⟩ := Option.map_eq_some_iff.mp hd
    have hi := (List.getElem?_eq_some_iff.mp ha).1
    have tk : l.take (i + 1) = l.take i ++ [a] := by rw [List.take_add_one, ha]; rfl
    have hsz : (((l.take i).filter tst).map g).length < sizeLine := by
      rw [List.length_map]
      have h1 := List.length_filter_le tst (l.take i)
      have h2 : (l.take i).length ≤ i := by rw [List.length_take]; omega
      omega
    refine he a (List.mem_of_getElem? ha) _ _ (fun ht => ⟨hsz, ?_, rfl⟩) (fun ht => ⟨?_, rfl⟩)
    · rw [tk, List.filter_append, List.map_append]
      simp [ht]
    · rw [tk, List.filter_append, List.map_append]
      simp [ht]
  · subst e1 e2
    rw [List.length_map, List.take_length]
    exact hq
end
/-! ### all of a list of bools -/
theorem bools_of {H : Hp} : ∀ {bs : List Bool} {vs : List V}, DqA H vs (bs.map PyData.bool) → vs = bs.map V.bl
  | [], _, .nil => rfl
  | b :: r, _, .cons h q => by
    cases h
    rw [bools_of q]
    rfl
def qAll : List PyData → DP := fun ds Q => match ds with
  | [.list xs] => ∃ bs : List Bool, xs = bs.map PyData.bool ∧ Q (.bool (bs.all id))
  | _ => False
theorem qAll_l {xs : List PyData} {Q : PyData → Prop} : qAll [.list xs] Q = ∃ bs : List Bool, xs = bs.map PyData.bool ∧ Q (.bool (bs.all id)) := rfl
theorem b_all {X : Cx} {K : PySem.W.Frag} (hK : X.K = K) (hc : X.calm = true) : CB X (.builtin "all") (rAll K) qAll := by
  subst hK
  exact ⟨cr_all hc, fun hh H xs ds Q Q1 hd h hq q => by
  cases h with
  | nil => exact hq.elim
  | cons h r =>
    cases r with
    | cons _ _ => cases h <;> exact hq.elim
    | nil =>
      cases h with
      | @lst a vs ds ha hA =>
        obtain ⟨bs, rfl, hq⟩ := hq
        exact ⟨a, bs, rfl, by rw [← bools_of hA]; exact SqL.of (hw_sub _ _ ha), q _ _ _ hq (Same.refl H) (.bl _)⟩
      | _ => exact hq.elim⟩
end Ev

/-! extend by a tuple -/
namespace PySem.AutoSeq1
open PySem Builtin
theorem extend_tup (l : Addr) (items : Array Value) (n : Nat) (b : Addr) (od : Option Addr) (sl : Array (Option Value)) (items2 : Array Value) (n2 : Nat) (hs0 : ¬(!items.isEmpty && Builtin.List.listTooLong (items.size + items2.size)) = true) (hs1 : items.size ≤ sizeLine) (hs2 : items.size + items2.size ≤ sizeLine + 1) :
    Meets (Builtin.«list.extend» ⟨[.ref l, .ref b], []⟩) (fun _ R s => s.heap.get? l = some { cls := .type "list", dict := none, data := .seq items n, slots := #[] } ∧ s.heap.get? b = some { cls := .type "tuple", dict := od, data := .seq items2 n2, slots := sl } ∧ R (.ok (.ret Value.none)) { s with heap := s.heap.update l (Obj.mapSeq fun x => x ++ items2), toks := s.toks }) :=
  .of_wp fun prog w A R s h => by
    obtain ⟨hp, g, d, tk, os⟩ := s; obtain ⟨hl, hb, h⟩ := h; have f1 := idx_int; have f2 := sub_tuple_tuple; have f3 := sub_list_list; have f4 := sub_tuple_list; have f5 := sub_list_tuple
    have hz' : (items ++ items2).size ≤ sizeLine + 1 := by rw [Array.size_append]; exact hs2
    wp_walk using (wpAny_updateSeq hl rfl (hz := hs1) (_hz' := hz')), wpAny_loadPart' hl, wpAny_loadPart' hb; exact ⟨_, rfl, h⟩
end PySem.AutoSeq1
namespace Ev
open PySem PySem.Spec PyProof.Rows L2
def rExtend2 : V → List V → Hp → VK → Prop := fun x vs H Q => ∃ l b xs zs, x = .ref l ∧ vs = [.ref b] ∧ H l = some (.lst xs) ∧ (H b = some (.lst zs) ∨ H b = some (.tup zs)) ∧ xs.length + zs.length ≤ sizeLine ∧ Q .non (upd H l (.lst (xs ++ zs)))
theorem mt_extend2 {X : Cx} : MtM X "list.extend" rExtend2 := by
  intro pins s σ H x vs v us Q I rx rv h
  obtain ⟨l, b, xs, zs, rfl, rfl, hH, hB, hz, q⟩ := h
  rcases hB with hB | hB
  · exact mt_extend pins s σ H _ _ v us Q I rx rv ⟨l, b, xs, zs, rfl, rfl, hH, hB, hz, q⟩
  cases rx
  obtain ⟨u, rfl, ru⟩ := rv.one
  cases ru
  obtain ⟨z, its, n, r, hl, e⟩ := I.lstM hH
  obtain ⟨_, its2, r2, o, e2, hc, n2, hd⟩ := (show ObjOk X.prog X.w H s.heap b (.tup zs) from I.hok b _ hB)
  obtain ⟨oc, od, dt, sl⟩ := o
  simp only at hc hd
  subst hc hd
  have hl2 := r2.length
  have hsz : its.toArray.size + its2.toArray.size ≤ sizeLine := by rw [List.size_toArray, List.size_toArray]; omega
  have hlong : ¬ (!its.toArray.isEmpty && Builtin.List.listTooLong (its.toArray.size + its2.toArray.size)) = true := by
    rw [notLongL hsz, Bool.and_false]
    exact Bool.false_ne_true
  refine PySem.call_meets F.slot_list_extend ⟨_, e, rfl⟩ F.entry_list_extend (F.args_list_extend_2 _ _)
    (PySem.AutoSeq1.extend_tup l its.toArray n b od sl its2.toArray n2 hlong (by rw [List.size_toArray]; omega) (by omega)) ⟨e, e2, ?_⟩
  refine ⟨.non, _, I.lset (its' := its ++ its2) hH e (by simp) (r.append r2) ?_, rfl, q⟩
  rw [List.length_append]
  omega
section
variable {X : Cx} {pos : Pos} {e : Expr} {ta : TE} {pa : DE}
/-- x.extend(e), e a list or a tuple -/
def dExt2 (i : Nat) (p : DE) : DS := fun DD ss n => ∃ xs, ss[i]? = some (.own xs) ∧ p ss n fun d n' => ∃ zs, (d = .list zs ∨ d = .tuple zs) ∧ xs.length + zs.length ≤ sizeLine ∧ NLA zs = true ∧ DD.nx (ss.set i (.own (xs ++ zs))) n'
theorem s_ext2 {i : Nat} {x : Str} {p1 p2 p3 : Pos} (ho : PL X (.Name x p1) (tVar i) (dVar i)) (he : PL X e ta pa) (hfew : ((backTo p3 (starEach [e] X.env)).all (fun x => !x.1) && (backToKw p3 (keywordEach [] X.env)).all (fun x => x.1.isSome)
      && decide (([e] : List Expr).length + ([] : List Keyword).length + (if ([] : List Keyword).isEmpty then 0 else 1) < 30)) = true := by rfl) (hbase : attributeBase (.Name x p1) "extend" X.env (eval (.Name x p1) X.env) = eval (.Name x p1) X.env := by rfl)
    (hline : (p2.endLine == p3.line) = true := by rfl) (hs : starEach [e] X.env = (false, eval e X.env) :: starEach [] X.env := by rfl) (hsw : swapsWith (.Call (.Attribute (.Name x p1) "extend" p2) [e] [] p3) none pos.line X.env = pure false := by rfl) :
    PLS X (.Expr (.Call (.Attribute (.Name x p1) "extend" p2) [e] [] p3) pos) (tDrop (tBM X.K "list" rExtend2 (tVar i) (tCons ta tNil))) (dExt2 i pa) :=
  ⟨ps_expr (pe_bm PySem.F.plainAttrs_list PySem.F.slot_list_extend PySem.F.type_list_extend mt_extend2 ho.pe (pa_cons he.pe pa_nil hs) hbase hfew hline hs rfl) hsw, fun g H0 σ H ss n w D DD k h E => by
  obtain ⟨xs, hx, h⟩ := h
  obtain ⟨a, vs, h1, h2, h3, h4, h5⟩ := k.sl i _ hx
  refine ⟨_, h1, .inl ⟨rfl, vs, SqL.of h4⟩, he.lf g H0 σ H ss n w _ _ k h fun d n' v H' h6 e1 k1 r1 => ?_⟩
  obtain ⟨zs, hd, hz, hn, hq⟩ := h6
  obtain ⟨a', vs', g1, g2, g3, g4, g5⟩ := k1.sl i _ hx
  rw [h1] at g1
  cases g1
  rcases hd with rfl | rfl
  · obtain ⟨b, us, rfl, hb, hA⟩ : ∃ b us, v = .ref b ∧ H' b = some (.lst us) ∧ DqA (hw g.h H') us zs := by
      cases r1 with
      | @lst b us _ hb hA => exact ⟨b, us, rfl, hw_sub _ _ hb, hA⟩
    refine ⟨a, b, vs', us, rfl, rfl, g4, .inl hb, by rw [g5.len, hA.len]; exact hz, ?_⟩
    obtain ⟨k2, s2⟩ := k1.turn (vs' := vs' ++ us) (xs := xs ++ zs) (lt_of_get hx) h1 g2 g3 g4 (g5.app (k1.strongA hA (.inl hn)))
    exact E.nx _ _ _ _ _ k2 (fun b o q => s2 b o (hw_ed k.wdk e1 b o q)) hq
  · obtain ⟨b, us, rfl, hb, hA⟩ : ∃ b us, v = .ref b ∧ H' b = some (.tup us) ∧ DqA (hw g.h H') us zs := by
      cases r1 with
      | @tup b us _ hb hA => exact ⟨b, us, rfl, hw_sub _ _ hb, hA⟩
    refine ⟨a, b, vs', us, rfl, rfl, g4, .inr hb, by rw [g5.len, hA.len]; exact hz, ?_⟩
    obtain ⟨k2, s2⟩ := k1.turn (vs' := vs' ++ us) (xs := xs ++ zs) (lt_of_get hx) h1 g2 g3 g4 (g5.app (k1.strongA hA (.inl hn)))
    exact E.nx _ _ _ _ _ k2 (fun b o q => s2 b o (hw_ed k.wdk e1 b o q)) hq⟩
end
end Ev

/-! ### enumerate of a tuple, of one argument -/
namespace PySem
open Sem (wp)
set_option maxHeartbeats 1000000 in
theorem meets_enumerate_new1 {v : Value} {o : Obj} {H : Heap → Prop} (B : Begins v o H) :
    Meets (Builtin.«enumerate.__new__» ⟨[.type "enumerate", v], []⟩) (fun _ R s => H s.heap ∧
      R (.ok (.ret (.ref (s.heap.push o).objs.size))) { s with heap := (s.heap.push o).push { cls := .type "enumerate", data := .fields #[.none, .bool false, .ref s.heap.objs.size, rawInt 0, .none, .none] } }) :=
  .of_wp fun prog w A R s h => by
    obtain ⟨hp, g, d, tk, os⟩ := s; obtain ⟨h1, h⟩ := h
    have hsub := sub_enumerate
    have q1 : ∀ {A' : Around} {E : Value → Shared → Prop} {Q : Value → Shared → Prop}, Q (.ref hp.objs.size) ⟨hp.push o, g, d, tk, os⟩ → wpAny (model prog w) A' (pyIter v) Q E ⟨hp, g, d, tk, os⟩ :=
      fun q => B.iter prog w _ _ ⟨hp, g, d, tk, os⟩ _ h1 q
    wp_walk using q1
    refine wpAny_stack_any fun st => wpAny_pure ?_
    split
    · rename_i c _ _ _ _ _
      cases (c == Value.type "enumerate")
      · wp_walk using q1
        exact ⟨_, rfl, h⟩
      · wp_walk using q1
        exact ⟨_, rfl, h⟩
    · wp_walk using q1
      exact ⟨_, rfl, h⟩
section
variable {prog : Program} {w : World} {A : Around} {E : Value → Shared → Prop} {s : Shared}
theorem enum_begins1 {v : Value} {o : Obj} {H : Heap → Prop} {Q : Value → Shared → Prop} (B : Begins v o H) (h1 : H s.heap)
    (h : ∀ h', IsEnum h' (s.heap.objs.size + 1) s.heap.objs.size 0 .none → h'.get? s.heap.objs.size = some o → h'.objs.size = s.heap.objs.size + 2 →
      (∀ b o, s.heap.get? b = some o → h'.get? b = some o) → Q (.ref (s.heap.objs.size + 1)) { s with heap := h' }) :
    wpAny (model prog w) A (call (.type "enumerate") [v]) Q E s := by
  refine callType_new F.called_enumerate (by decide) (F.typeCall_enumerate_1 _) (F.newCall_enumerate_1 _) (fun obj => F.args_object_init_2 obj _) F.entry_enumerate_new
    (meets_enumerate_new1 B) ⟨h1, ?_⟩
  have hz : (s.heap.push o).objs.size = s.heap.objs.size + 1 := Heap.size_push ..
  show _ ∧ _
  rw [hz]
  have he : IsEnum ((s.heap.push o).push { cls := .type "enumerate", data := .fields #[.none, .bool false, .ref s.heap.objs.size, rawInt 0, .none, .none] }) (s.heap.objs.size + 1) s.heap.objs.size 0 .none := by
    have := Heap.get?_push_size (s.heap.push o) (o := { cls := .type "enumerate", data := .fields #[.none, .bool false, .ref s.heap.objs.size, rawInt 0, .none, .none] }) rfl
    rw [hz] at this; exact this
  refine ⟨⟨_, he, rfl⟩, h _ he (Heap.get?_push_of_some _ (Heap.get?_push_size _ B.free)) (by rw [Heap.size_push, hz]) fun b o x => Heap.get?_push_of_some _ (Heap.get?_push_of_some _ x)⟩
end
end PySem
namespace Ev
open PySem PySem.Spec PyProof.Rows L2
def IteT (K : PySem.W.Frag) (a : Addr) : It :=
  ⟨fun i H => ∃ (xs : List V) (x : V), SqT K H a xs ∧ xs[i]? = some x, fun i H v H' => ∃ T x, v = .ref T ∧ H T = none ∧ H' = upd H T (.tup [.int (i : Nat), x]) ∧ ∀ xs, SqT K H a xs → xs[i]? = some x, fun i H => ∃ xs : List V, SqT K H a xs ∧ xs.length = i⟩
theorem turn_enumT {P : Program} {w : World} {K : PySem.W.Frag} {elts : List Expr} {kk : Nat} {tpos : Pos} (a e it : Addr) :
    Turn P w K (.Tuple elts kk tpos) (IteT K a) [e, it] e (fun i h => (∃ old, IsEnum h e it ((i : Nat) : Int) old) ∧ h.IsTupleIter it a i ∧ e ≠ it) where
  mem := by simp
  obj := fun i h st b hb => by
    obtain ⟨⟨old, he⟩, ⟨o, ho, hc, hd⟩, _⟩ := st
    have e' : b = e ∨ b = it := by simpa using hb
    rcases e' with z | z
    · rw [z]; exact ⟨_, he, fun v q => nomatch q⟩
    · rw [z]; exact ⟨o, ho, fun v q => by rw [hd] at q; cases q⟩
  keep := fun i h h' st k => let ⟨⟨old, he⟩, hi, hne⟩ := st; ⟨⟨old, k e (by simp) _ he⟩, hi.at fun o q => k it (by simp) o q, hne⟩
  item := by
    intro X hP hw hK hc i pins s σ H E I hf st hg
    subst hP hw hK
    obtain ⟨⟨old, he⟩, hit, hne⟩ := st
    obtain ⟨xs, x, hq, hx⟩ := hg
    obtain ⟨its, rv, p, hz⟩ := I.tuple hq
    obtain ⟨u, hu, ru⟩ := rv.get hx
    have hel : e < s.heap.objs.size := Heap.lt_size he
    have hil : it < s.heap.objs.size := by obtain ⟨_, q, _⟩ := hit; exact Heap.lt_size q
    have p' : s.heap.IsTuple a its.toArray := p
    have nea : a ≠ it := fun z => by
      have q := p'
      rw [z] at q
      obtain ⟨o, ho, hc', _⟩ := hit
      obtain ⟨o', ho', hc2, _⟩ := q
      rw [ho] at ho'
      cases ho'
      rw [hc'] at hc2
      simp at hc2
    have nee : a ≠ e := fun z => by
      have q := p'
      rw [z] at q
      obtain ⟨o', ho', hc2, _⟩ := q
      rw [he] at ho'
      cases ho'
      simp at hc2
    have lt1 : i < its.toArray.size := by
      have := (List.getElem?_eq_some_iff.mp hu).1
      simpa using this
    have D := Draws.tuple (prog := X.prog) (w := X.w) (A := X.A.in1) (I.ok.hd hc) it a nea its.toArray
    refine wpAny_pyNext_enum_itemD D he ⟨hit, p'⟩ lt1 hne (by simpa using ⟨hne, Ne.symm nee⟩) fun x1 h' tk y1 ho d1 hT hsz hk => ?_
    have e1 : x1 = u := by
      have y1 : its[i]? = some x1 := by simpa using y1
      rw [hu] at y1
      exact (Option.some.inj y1).symm
    subst e1
    refine ⟨_, rfl, wpAny_letOwnedTupleGo_enum (s := { s with heap := h', toks := tk + 1 }) ho fun h'' he' sb => ?_⟩
    have hT2 : h''.get? s.heap.objs.size = some { cls := .type "tuple", data := .seq #[.int i tk, x1] } := (sb.2 _ (Nat.ne_of_gt hel)).trans hT
    have new : ObjOk X.prog X.w (upd H s.heap.objs.size (.tup [.int (i : Nat), x])) h'' s.heap.objs.size (.tup [.int (i : Nat), x]) :=
      ⟨by show 2 ≤ sizeLine; decide, [.int i tk, x1], .cons ⟨_, rfl⟩ (.cons ru .nil), ⟨_, hT2, rfl, _, rfl⟩⟩
    have I1 : Inv X pins σ (upd H s.heap.objs.size (.tup [.int (i : Nat), x])) { s with heap := h'', toks := tk + 1 } :=
      I.turnedNew (ch := [e, it]) (fun b ob hb q => (sb.2 b (fun z => hb (by simp [z]))).trans (hk b ob (fun z => hb (by simp [z])) (fun z => hb (by simp [z])) q)) hf (Nat.le_refl _) new
    refine ⟨.ref s.heap.objs.size, _, I1, rfl, ⟨_, x, rfl, I.hok.fresh (Nat.le_refl _), rfl, fun ys hy => by rw [I.tuple_inj hy hq]; exact hx⟩, ⟨⟨x1, ?_⟩, d1.1.at fun o q => (sb.2 it (Ne.symm hne)).trans q, hne⟩, fun b hb => ?_⟩
    · have e1 : ((i + 1 : Nat) : Int) = (i : Int) + 1 := by omega
      rw [e1]; exact he'
    · have hb' : b < s.heap.objs.size := by
        have e' : b = e ∨ b = it := by simpa using hb
        rcases e' with z | z
        · rw [z]; exact hel
        · rw [z]; exact hil
      rw [upd_ne (Nat.ne_of_lt hb')]
      exact (hf b hb).1
  done := by
    intro X hP hw hK hc i pins s σ H E I hf st hg
    subst hP hw hK
    obtain ⟨⟨old, he⟩, hit, hne⟩ := st
    obtain ⟨xs, hq, hx⟩ := hg
    obtain ⟨its, rv, p, hz⟩ := I.tuple hq
    have p' : s.heap.IsTuple a its.toArray := p
    have nea : a ≠ it := fun z => by
      have q := p'
      rw [z] at q
      obtain ⟨o, ho, hc', _⟩ := hit
      obtain ⟨o', ho', hc2, _⟩ := q
      rw [ho] at ho'
      cases ho'
      rw [hc'] at hc2
      simp at hc2
    obtain ⟨f0, f1, f2, f3, f4, f5⟩ := hf it (by simp)
    have hl := rv.length
    have D := Draws.tuple (prog := X.prog) (w := X.w) (A := X.A.in1) (I.ok.hd hc) it a nea its.toArray
    have hn : its.toArray.size = i := by simp; omega
    exact wpAny_pyNext_enum_endD D he (by rw [hn]; exact ⟨hit, p'⟩) fun h' eb => ⟨rfl, I.turned (t' := s.toks) (fun b o hb q => eb b o hb q) f0 f1 f3 f4 f5⟩
  self := fun A i s Q E st h => let ⟨⟨_, he⟩, _⟩ := st; wpAny_pyIter_enum he h
def iEnumA (K : PySem.W.Frag) (ta : TA) : TI := fun σ H R => ta σ H fun vs H1 => ∃ a xs, vs = [.ref a] ∧ ((SqL K H1 a xs ∧ R (Ite K a) H1) ∨ (SqT K H1 a xs ∧ R (IteT K a) H1))
theorem pi_enumA {X : Cx} {e : Expr} {ta : TA} {p pos tpos : Pos} {elts : List Expr} {kk : Nat} (hg : Gl X "enumerate") (hm : X.mg "enumerate" = none) (ha : PA X [e] ta) (hs : starEach [e] X.env = [(false, eval e X.env)] := by rfl) :
    PI X (.Tuple elts kk tpos) (.Call (.Name "enumerate" p) [e] [] pos) (iEnumA X.K ta) := by
  refine ⟨fun pins s σ H R I h => ?_⟩
  refine Call_ (ld_blt I hg hm boot_enumerate (PyProof.Rows.callWith_type1 (thn (ha.run pos pins s σ H _ I h) fun us s1 ⟨vs, H1, I1, r1, q1⟩ => ?_) hs rfl))
  obtain ⟨a, xs, ex, q1⟩ := q1
  subst ex
  cases r1 with
  | cons r rr =>
    cases rr
    cases r
    have fin : ∀ b, b = s1.heap.objs.size + 1 ∨ b = s1.heap.objs.size → s1.heap.objs.size ≤ b := fun b e' => by
      rcases e' with z | z
      · rw [z]; exact Nat.le_add_right _ _
      · rw [z]; exact Nat.le_refl _
    rcases q1 with ⟨hq, q⟩ | ⟨hq, q⟩
    · obtain ⟨its, rv, p', hz⟩ := I1.list hq
      refine call_enumerate_list p'.isList fun h' he hit hsz hk => wpAny_pyIter_enum he ?_
      have I2 : Inv X pins σ H1 { s1 with heap := h' } := I1.kept (t' := s1.toks) hk
      refine ⟨s1.heap.objs.size + 1, [s1.heap.objs.size + 1, s1.heap.objs.size], _, _, H1, rfl, I2, turn_enum a (s1.heap.objs.size + 1) s1.heap.objs.size, ⟨⟨.none, he⟩, hit, Nat.succ_ne_self _⟩, fun b hb => ?_, q⟩
      have hle := fin b (by simpa using hb)
      exact I1.fpOk hle (I1.hok.fresh hle)
    · obtain ⟨its, rv, p', hz⟩ := I1.tuple hq
      refine enum_begins1 (begins_tuple a its.toArray) p' fun h' he hit hsz hk => wpAny_pyIter_enum he ?_
      have I2 : Inv X pins σ H1 { s1 with heap := h' } := I1.kept (t' := s1.toks) hk
      refine ⟨s1.heap.objs.size + 1, [s1.heap.objs.size + 1, s1.heap.objs.size], _, _, H1, rfl, I2, turn_enumT a (s1.heap.objs.size + 1) s1.heap.objs.size, ⟨⟨.none, he⟩, ⟨_, hit, rfl, rfl⟩, Nat.succ_ne_self _⟩, fun b hb => ?_, q⟩
      have hle := fin b (by simpa using hb)
      exact I1.fpOk hle (I1.hok.fresh hle)
def enumD (xs : List PyData) : List PyData := xs.mapIdx fun i x => PyData.tuple [.int (i : Nat), x]
theorem enumD_get (xs : List PyData) (i : Nat) : (enumD xs)[i]? = xs[i]?.map fun x => PyData.tuple [.int (i : Nat), x] := List.getElem?_mapIdx
theorem enumD_len (xs : List PyData) : (enumD xs).length = xs.length := List.length_mapIdx
theorem enum_item {H : Hp} {w' : Addr → Option Nat} {vs : List V} {xs : List PyData} (hA : DqA (hw w' H) vs xs) {i : Nat} {x : V} {T : Addr} (hT : H T = none) (h1 : vs[i]? = some x) :
    Same H (upd H T (.tup [.int (i : Nat), x])) ∧ (∀ d, (enumD xs)[i]? = some d → (∀ p, H p = none → w' p = none) → Dq (hw w' (upd H T (.tup [.int (i : Nat), x]))) (.ref T) d) := by
  have s := same_new (.tup [.int (i : Nat), x]) hT
  refine ⟨s, fun d hd fr => ?_⟩
  obtain ⟨dx, e1, r1⟩ := hA.getV h1
  rw [enumD_get, e1] at hd
  cases hd
  have hs : Same (hw w' H) (hw w' (upd H T (.tup [.int (i : Nat), x]))) := fun b o q => by
    obtain ⟨q1, q2⟩ := hw_some.mp q
    exact hw_some.mpr ⟨q1, s _ _ q2⟩
  exact .tup (hw_some.mpr ⟨fr T hT, upd_same⟩) (.cons (.int _) (.cons (r1.same hs) .nil))
/-- for i, x in enumerate(list or tuple) -/
def diEnum (pA : DA) : DI := fun ss n Q => pA ss n fun as n' => onD as fun ds => ∃ x, ds = [x] ∧ canD ss x ∧ ((∃ xs, x = .list xs ∧ Q (enumD xs) n') ∨ (∃ xs, x = .tuple xs ∧ Q (enumD xs) n'))
section
variable {X : Cx} {a b c o e e2 : Expr} {tA : TA} {pA : DA} {ta tb tc to : TE} {pa pb pc po : DE} {pos apos : Pos}
theorem i_enum {p0 tpos : Pos} {elts : List Expr} {kk : Nat} (hg : Gl X "enumerate") (hm : X.mg "enumerate" = none) (ha : PLA X [a] tA pA) (hs : starEach [a] X.env = [(false, eval a X.env)] := by rfl) :
    PLI X (.Tuple elts kk tpos) (.Call (.Name "enumerate" p0) [a] [] pos) (iEnumA X.K tA) (diEnum pA) := ⟨pi_enumA hg hm ha.pa hs, fun g H0 σ H ss n w R Q1 k h q => ha.lf g H0 σ H ss n w _ _ k h fun as n' vs H' h1 e1 k1 r1 => by
  obtain ⟨ds, e, x, rfl, c1, h1⟩ := onD_some h1
  have r := datas_ok r1 e
  cases r with
  | cons ra r =>
    cases r
    have s1 := k1.strong ra c1
    rcases h1 with ⟨xs, rfl, h1⟩ | ⟨xs, rfl, h1⟩
    · cases s1 with
      | @lst a us _ ha hA =>
        refine ⟨a, us, rfl, .inl ⟨SqL.of (hsub ha), q _ _ _ _ h1 e1 k1 fun H w' s hd hn => ?_⟩⟩
        have ga : H a = some (.lst us) := (hw_some.mp (s _ _ ha)).2
        have hl : (enumD xs).length = us.length := by rw [enumD_len, hA.len]
        refine ⟨fun i hi => ?_, fun i v H2 hy hi => ?_, us, SqL.of ga, by omega⟩
        · have h1 : i < us.length := by omega
          exact ⟨us, us[i], SqL.of ga, List.getElem?_eq_getElem h1⟩
        · obtain ⟨T, x, rfl, hT, rfl, f1⟩ := hy
          exact enum_item (hA.same s) hT (f1 _ (SqL.of ga))
    · cases s1 with
      | @tup a us _ ha hA =>
        refine ⟨a, us, rfl, .inr ⟨SqT.of (hsub ha), q _ _ _ _ h1 e1 k1 fun H w' s hd hn => ?_⟩⟩
        have ga : H a = some (.tup us) := (hw_some.mp (s _ _ ha)).2
        have hl : (enumD xs).length = us.length := by rw [enumD_len, hA.len]
        refine ⟨fun i hi => ?_, fun i v H2 hy hi => ?_, us, SqT.of ga, by omega⟩
        · have h1 : i < us.length := by omega
          exact ⟨us, us[i], SqT.of ga, List.getElem?_eq_getElem h1⟩
        · obtain ⟨T, x, rfl, hT, rfl, f1⟩ := hy
          exact enum_item (hA.same s) hT (f1 _ (SqT.of ga))⟩
theorem k_enum {K : PySem.W.Frag} (hK : X.K = K) {p0 tpos : Pos} {elts : List Expr} {kk : Nat} (hg : Gl X "enumerate") (hm : X.mg "enumerate" = none) (ha : PLA X [a] tA pA) (hs : starEach [a] X.env = [(false, eval a X.env)] := by rfl) :
    PLI X (.Tuple elts kk tpos) (.Call (.Name "enumerate" p0) [a] [] pos) (iEnumA K tA) (diEnum pA) := by subst hK; exact i_enum hg hm ha hs
/-- x.find(y, i) -/
def dFind3 (po pa pb : DE) : DE := fun ss n Q => po ss n fun d n1 => ∃ x, d = .str x ∧ pa ss n1 fun e n2 => ∃ y, e = .str y ∧ pb ss n2 fun f n3 => ∃ i, f = .int i ∧ Q (.int (Txt.find3 x y i)) n3
theorem l_find3 {K : PySem.W.Frag} (hK : X.K = K) (ho : PL X o to po) (ha : PL X e ta pa) (hb : PL X e2 tb pb) (hbase : attributeBase o "find" X.env (eval o X.env) = eval o X.env := by rfl)
    (hfew : ((backTo pos (starEach [e, e2] X.env)).all (fun x => !x.1) && (backToKw pos (keywordEach [] X.env)).all (fun x => x.1.isSome)
      && decide (([e, e2] : List Expr).length + ([] : List Keyword).length + (if ([] : List Keyword).isEmpty then 0 else 1) < 30)) = true := by rfl)
    (hline : (apos.endLine == pos.line) = true := by rfl) (hs : starEach [e, e2] X.env = (false, eval e X.env) :: starEach [e2] X.env := by rfl) (hs2 : starEach [e2] X.env = (false, eval e2 X.env) :: starEach [] X.env := by rfl) (hplain : (backTo pos (starEach [e2] X.env)).any (·.1) = false := by rfl) :
    PL X (.Call (.Attribute o "find" apos) [e, e2] [] pos) (tBM K "str" (fun x xs H Q => ∃ (a b : Str) (i : Int), x = .str a ∧ xs = [.str b, .int i] ∧ Q (.int (Txt.find3 a b i)) H) to (tCons ta (tCons tb tNil))) (dFind3 po pa pb) := by
  subst hK
  refine ⟨pe_bm PySem.F.plainAttrs_str PySem.F.slot_str_find PySem.F.type_str_find mt_find3 ho.pe (pa_cons ha.pe (pa_cons hb.pe pa_nil hs2) hs) hbase hfew hline hs hplain, fun g H0 σ H ss n w Q Q1 k hp q => ho.lf g H0 σ H ss n w _ _ k hp fun d n1 v H1 h1 e1 k1 r1 => ?_⟩
  obtain ⟨x, rfl, h1⟩ := h1
  cases r1
  refine ⟨rfl, ha.lf g H0 σ H1 ss n1 w _ _ k1 h1 fun d n2 v H2 h2 e2 k2 r2 => ?_⟩
  obtain ⟨y, rfl, h2⟩ := h2
  cases r2
  refine hb.lf g H0 σ H2 ss n2 w _ _ k2 h2 fun d n3 v H3 h3 e3 k3 r3 => ?_
  obtain ⟨i, rfl, h3⟩ := h3
  cases r3
  exact ⟨x, y, i, rfl, rfl, q _ _ _ _ h3 (e1.trans (e2.trans e3)) k3 (.int _)⟩
/-- a, b, c = e1, e2, e3 -/
def dPar3 (i j l : Nat) (p q r : DE) : DS := fun DD ss n => p ss n fun d n1 => q ss n1 fun e n2 => r ss n2 fun f n3 => canD ss d ∧ canD ss e ∧ canD ss f ∧ DD.nx (((ss.set i (.d d)).set j (.d e)).set l (.d f)) n3
theorem s_par3 {i j l : Nat} {x y z : Str} {px py pz pt' : Pos} {kt k2 : Nat} {pt2 : Pos} (hc : X.calm = true) (hN : X.N.Nodup) (hi : X.N[i]? = some x) (hj : X.N[j]? = some y) (hl : X.N[l]? = some z) (hij : i ≠ j) (hil : i ≠ l) (hjl : j ≠ l)
    (hx : List.lookup x X.env.scope.names = some .local) (hy : List.lookup y X.env.scope.names = some .local) (hz : List.lookup z X.env.scope.names = some .local)
    (ha : PL X a ta pa) (hb : PL X b tb pb) (hcc : PL X c tc pc) (hs : starEach [a, b, c] X.env = (false, eval a X.env) :: starEach [b, c] X.env := by rfl) (hs2 : starEach [b, c] X.env = (false, eval b X.env) :: starEach [c] X.env := by rfl) (hs3 : starEach [c] X.env = (false, eval c X.env) :: starEach [] X.env := by rfl)
    (hsw : swappedStores [.Tuple [.Name x px, .Name y py, .Name z pz] kt pt'] (.Tuple [a, b, c] k2 pt2) X.env = pure (some [x, y, z]) := by rfl) (hsole : swapsWithSole [.Tuple [.Name x px, .Name y py, .Name z pz] kt pt'] (.Tuple [a, b, c] k2 pt2) pos.line X.env = pure false := by rfl) :
    PLS X (.Assign [.Tuple [.Name x px, .Name y py, .Name z pz] kt pt'] (.Tuple [a, b, c] k2 pt2) pos) (tPar3 i j l (tCons ta (tCons tb (tCons tc tNil)))) (dPar3 i j l pa pb pc) :=
  ⟨ps_par3 hc hN hi hj hl hij hil hjl hx hy hz (pa_cons ha.pe (pa_cons hb.pe (pa_cons hcc.pe pa_nil hs3) hs2) hs) hsw hsole, fun g H0 σ H ss n w D DD k h E => ha.lf g H0 σ H ss n w _ _ k h fun d n1 v H1 h1 e1 k1 r1 => hb.lf g H0 σ H1 ss n1 w _ _ k1 h1 fun e n2 u H2 h2 e2 k2 r2 => hcc.lf g H0 σ H2 ss n2 w _ _ k2 h2 fun f n3 t H3 h3 e3 k3 r3 => by
    obtain ⟨c1, c2, c3, h3⟩ := h3
    have k4 := k3.put (i := i) (k3.strong (r1.same (h0_ed (e2.trans e3))) c1)
    have s4 : Same (hw w H3) (hw (drp w g.h i) H3) := drp_same
    have k5 := k4.put (i := j) ((k3.strong (r2.same (h0_ed e3)) c2).same s4)
    have s5 : Same (hw (drp w g.h i) H3) (hw (drp (drp w g.h i) g.h j) H3) := drp_same
    have k6 := k5.put (i := l) (((k3.strong r3 c3).same s4).same s5)
    exact ⟨v, u, t, rfl, E.nx _ _ _ _ _ k6 (fun b o q => drp_same _ _ (s5 b o (s4 b o (hw_ed k.wdk (e1.trans (e2.trans e3)) b o q)))) h3⟩⟩
end
end Ev

namespace Ev
open PySem PySem.Spec PyProof.Rows L2
/-! ### x[::-1], x a text -/
def revS (z : Str) : Str := ⟨z.cps.toList.reverse.toArray⟩
theorem revS_len (z : Str) : (revS z).length = z.length := by
  show (z.cps.toList.reverse.toArray).size = z.cps.size
  rw [List.size_toArray, List.length_reverse, Array.length_toList]
theorem rev_pick (z : Str) : (⟨((Builtin.Str.strSliceIndices none none (-1) z.length).filterMap (z.cps[·]?)).toArray⟩ : Str) = revS z := by
  have e : Builtin.Str.strSliceIndices none none (-1) z.length = sliceRange ((z.length : Int) - 1) (-1) (-1) := by
    unfold Builtin.Str.strSliceIndices
    simp
  rw [e, PySem.W.krv_sliceRange, PySem.W.krv_range, List.filterMap_reverse]
  unfold revS
  congr 3
  show (List.range z.cps.size).filterMap (z.cps[·]?) = _
  refine List.ext_getElem? fun i => ?_
  have : (List.range z.cps.size).filterMap (z.cps[·]?) = z.cps.toList := by
    have h : ∀ (l : List Nat), (List.range l.length).filterMap (l[·]?) = l := by
      intro l
      induction l with
      | nil => rfl
      | cons a r ih =>
        rw [List.length_cons, List.range_succ_eq_map, List.filterMap_cons]
        simp only [List.getElem?_cons_zero, List.filterMap_map]
        rw [show ((fun x => (a :: r)[x]?) ∘ Nat.succ) = fun x => r[x]? from rfl, ih]
    have h2 := h z.cps.toList
    rw [Array.length_toList] at h2
    simpa using h2
  rw [this]
def tRevS (te : TE) : TE := fun σ H Q => te σ H fun x H1 => ∃ z, x = .str z ∧ z.length ≤ sizeLine ∧ Q (.str (revS z)) H1
theorem pe_revS {X : Cx} {e : Expr} {te : TE} {k : Nat} {p1 p2 p3 pos : Pos} (he : PE X e te) : PE X (.Subscript e (.Slice none none (some (.UnaryOp .USub (.Constant (.int 1) k p1) p2)) p3) pos) (tRevS te) := by
  refine ⟨fun pins s σ H Q I h => ?_⟩
  refine Subscript_ (thn (he.run pins s σ H _ I h) fun v s1 ⟨x, H1, I1, r1, q1⟩ => ?_)
  obtain ⟨z, ex, hz, q⟩ := q1
  subst ex
  obtain ⟨t, rfl⟩ := (show ∃ t, v = Value.str z t from r1)
  have hst : PO X (some (.UnaryOp .USub (.Constant (.int 1) k p1) p2)) (tPart (tUn (rU fun i => .int (-i)) (tC (.int 1)))) := po_some (pe_un un_neg pe_int)
  refine wpAny_Slice (thn (po_none.run pins s1 σ H1 (fun o H2 => o = none ∧ H2 = H1) I1 ⟨rfl, rfl⟩) fun vl s2 ⟨l, H2, I2, pl, el, e2⟩ => ?_)
  subst el e2
  refine thn (po_none.run pins s2 σ H2 (fun o H3 => o = none ∧ H3 = H2) I2 ⟨rfl, rfl⟩) fun vu s3 ⟨u, H3, I3, pu, eu, e3⟩ => ?_
  subst eu e3
  refine thn (hst.run pins s3 σ H3 (fun o H4 => o = some (-1) ∧ H4 = H3) I3 ⟨1, rfl, -1, rfl, rfl, rfl⟩) fun vs s4 ⟨o, H4, I4, ps, eo, e4⟩ => ?_
  subst eo e4
  have I5 : Inv X pins σ H4 { s4 with heap := s4.heap.push { cls := .type "slice", data := .fields #[vl, vu, vs] } } := I4.kept (t' := s4.toks) fun b ob q => Heap.get?_push_of_some _ q
  show wpAny (model X.prog X.w) X.A (subscriptTail e (.Slice none none (some (.UnaryOp .USub (.Constant (.int 1) k p1) p2)) p3) (.str z t) (.ref s4.heap.objs.size)) (EP X pins σ Q) X.xe { s4 with heap := s4.heap.push { cls := .type "slice", data := .fields #[vl, vu, vs] } }
  obtain ⟨l, rfl, hl⟩ := IsPart.raw pl
  obtain ⟨u, rfl, hu⟩ := IsPart.raw pu
  obtain ⟨o, rfl, ho⟩ := IsPart.raw ps
  have hl : l = none := by cases l with | none => rfl | some x => cases hl
  have hu : u = none := by cases u with | none => rfl | some x => cases hu
  subst hl hu
  refine tail_any (ops := [.str z t, .ref s4.heap.objs.size]) (typeIs_str _ z t) PySem.F.slot_str_getitem.lookup ?_ (by with_unfolding_all rfl)
  obtain ⟨os, hos, hcs, hds⟩ := Heap.IsSliceOf.new s4.heap (partValue none) (partValue none) (partValue o)
  refine wpAny_getItem_str_slice (l := none) (u := none) (st := o) ⟨os, hos, hcs, hds⟩ (by rw [ho]; rfl) ?_
  have e1 : slicePicked z none none o = Builtin.Str.strSliceIndices none none (-1) z.length := by
    unfold slicePicked
    rw [ho]
    rfl
  unfold sliceMade
  rw [ho, e1]
  rw [if_neg (by simp), rev_pick]
  exact ⟨by rw [revS_len]; exact hz, .str _, H4, I5.tok _, ⟨_, rfl⟩, q⟩
def dRevS (p : DE) : DE := fun ss n Q => p ss n fun d n' => ∃ z, d = .str z ∧ z.length ≤ sizeLine ∧ Q (.str (revS z)) n'
theorem l_revS {X : Cx} {e : Expr} {ta : TE} {pa : DE} {k : Nat} {p1 p2 p3 pos : Pos} (he : PL X e ta pa) : PL X (.Subscript e (.Slice none none (some (.UnaryOp .USub (.Constant (.int 1) k p1) p2)) p3) pos) (tRevS ta) (dRevS pa) :=
  ⟨pe_revS he.pe, fun g H0 σ H ss n w Q Q1 k hp q => he.lf g H0 σ H ss n w _ _ k hp fun d n' v H' h1 e1 k1 r1 => by
    obtain ⟨z, rfl, hz, h1⟩ := h1
    cases r1
    exact ⟨z, rfl, hz, q _ _ _ _ h1 e1 k1 (.str _)⟩⟩
end Ev

namespace Law
open PySem PySem.Spec PyProof.Rows L2 Ev
def top (i : Nat) : Stmt := PySem.Challenge.pw_everycount_k24_what_is_plain.main.body.getD i (.Pass ⟨0, 0, 0, 0⟩)
abbrev s_root_of : Stmt := top 1
abbrev N_root_of : List Str := ["word"]
abbrev P_root_of : List Str := ["word"]
theorem sc_root_of : FnScope N_root_of P_root_of (defScope s_root_of) := ⟨rfl, rfl, rfl, by decide +kernel, rfl, by decide +kernel, by decide +kernel⟩
abbrev s_is_plain : Stmt := top 3
abbrev N_is_plain : List Str := ["row", "_", "texts", "loops", "number", "word", "form", "ahead"]
abbrev P_is_plain : List Str := ["row"]
theorem sc_is_plain : FnScope N_is_plain P_is_plain (defScope s_is_plain) := ⟨rfl, rfl, rfl, by decide +kernel, rfl, by decide +kernel, by decide +kernel⟩
abbrev s__law_deck : Stmt := top 5
abbrev N__law_deck : List Str := ["_law_script"]
abbrev P__law_deck : List Str := ["_law_script"]
theorem sc__law_deck : FnScope N__law_deck P__law_deck (defScope s__law_deck) := ⟨rfl, rfl, rfl, by decide +kernel, rfl, by decide +kernel, by decide +kernel⟩
abbrev s__law_draw : Stmt := top 6
abbrev N__law_draw : List Str := ["_law_deck_here", "_law_many", "_law_found", "_law_cell", "_law_mixed"]
abbrev P__law_draw : List Str := ["_law_deck_here", "_law_many"]
theorem sc__law_draw : FnScope N__law_draw P__law_draw (defScope s__law_draw) := ⟨rfl, rfl, rfl, by decide +kernel, rfl, by decide +kernel, by decide +kernel⟩
abbrev s__law_one : Stmt := top 7
abbrev N__law_one : List Str := ["_law_deck_here", "_law_items"]
abbrev P__law_one : List Str := ["_law_deck_here", "_law_items"]
theorem sc__law_one : FnScope N__law_one P__law_one (defScope s__law_one) := ⟨rfl, rfl, rfl, by decide +kernel, rfl, by decide +kernel, by decide +kernel⟩
abbrev s__law_word : Stmt := top 8
abbrev N__law_word : List Str := ["_law_deck_here", "_law_some"]
abbrev P__law_word : List Str := ["_law_deck_here"]
theorem sc__law_word : FnScope N__law_word P__law_word (defScope s__law_word) := ⟨rfl, rfl, rfl, by decide +kernel, rfl, by decide +kernel, by decide +kernel⟩
abbrev s__law_form : Stmt := top 9
abbrev N__law_form : List Str := ["_law_deck_here", "_law_k", "_law_opened", "_law_factors", "_law_number"]
abbrev P__law_form : List Str := ["_law_deck_here", "_law_k", "_law_opened"]
theorem sc__law_form : FnScope N__law_form P__law_form (defScope s__law_form) := ⟨rfl, rfl, rfl, by decide +kernel, rfl, by decide +kernel, by decide +kernel⟩
abbrev s__law_parts : Stmt := top 10
abbrev N__law_parts : List Str := ["_law_deck_here", "_law_k", "_law_deep", "_law_closed", "_law_found", "_law_turn_here", "_law_sort"]
abbrev P__law_parts : List Str := ["_law_deck_here", "_law_k", "_law_deep", "_law_closed"]
theorem sc__law_parts : FnScope N__law_parts P__law_parts (defScope s__law_parts) := ⟨rfl, rfl, rfl, by decide +kernel, rfl, by decide +kernel, by decide +kernel⟩
abbrev s__law_row : Stmt := top 11
abbrev N__law_row : List Str := ["_law_parts_here", "_law_texts", "_law_loops", "_law_some", "_law_inner", "_law_turn_here"]
abbrev P__law_row : List Str := ["_law_parts_here"]
theorem sc__law_row : FnScope N__law_row P__law_row (defScope s__law_row) := ⟨rfl, rfl, rfl, by decide +kernel, rfl, by decide +kernel, by decide +kernel⟩
abbrev s__law_size : Stmt := top 12
abbrev N__law_size : List Str := ["_law_texts", "_law_loops", "_law_text", "_law_word_here", "_law_form_here"]
abbrev P__law_size : List Str := ["_law_texts", "_law_loops"]
theorem sc__law_size : FnScope N__law_size P__law_size (defScope s__law_size) := ⟨rfl, rfl, rfl, by decide +kernel, rfl, by decide +kernel, by decide +kernel⟩
abbrev s__law_program : Stmt := top 13
abbrev N__law_program : List Str := ["_law_deck_here", "_law_k", "_law_most", "_law_parts_here", "_law_texts", "_law_loops"]
abbrev P__law_program : List Str := ["_law_deck_here", "_law_k", "_law_most"]
theorem sc__law_program : FnScope N__law_program P__law_program (defScope s__law_program) := ⟨rfl, rfl, rfl, by decide +kernel, rfl, by decide +kernel, by decide +kernel⟩
abbrev s__law_put : Stmt := top 14
abbrev N__law_put : List Str := ["_law_row_here", "_law_number", "_law_ahead", "_law_some", "_law_later", "_law_k", "_law_texts", "_law_loops", "_law_between", "_law_fresh"]
abbrev P__law_put : List Str := ["_law_row_here", "_law_number", "_law_ahead", "_law_some", "_law_later"]
theorem sc__law_put : FnScope N__law_put P__law_put (defScope s__law_put) := ⟨rfl, rfl, rfl, by decide +kernel, rfl, by decide +kernel, by decide +kernel⟩
abbrev s__law_turn_by : Stmt := top 15
abbrev N__law_turn_by : List Str := ["_law_row_here", "_law_move", "_law_word_here", "_law_form_here", "_law_number", "_law_name", "_law_many", "_law_ahead", "_law_later", "_law_fresh", "_law_spare", "_law_one_here", "_law_two"]
abbrev P__law_turn_by : List Str := ["_law_row_here", "_law_move", "_law_word_here", "_law_form_here"]
theorem sc__law_turn_by : FnScope N__law_turn_by P__law_turn_by (defScope s__law_turn_by) := ⟨rfl, rfl, rfl, by decide +kernel, rfl, by decide +kernel, by decide +kernel⟩
abbrev s__law_turn : Stmt := top 16
abbrev N__law_turn : List Str := ["_law_row_here", "_law_move", "_law_k", "_law_texts", "_law_loops", "_law_number", "_law_word_here", "_law_form_here", "_law_name", "_law_ahead", "_law_later", "_law_both", "_law_one_here", "_law_two"]
abbrev P__law_turn : List Str := ["_law_row_here", "_law_move"]
theorem sc__law_turn : FnScope N__law_turn P__law_turn (defScope s__law_turn) := ⟨rfl, rfl, rfl, by decide +kernel, rfl, by decide +kernel, by decide +kernel⟩
abbrev s__law_cuts : Stmt := top 17
abbrev N__law_cuts : List Str := ["_law_row_here", "_law_found", "_law_number", "_law_word_here", "_law_form_here", "_law_many"]
abbrev P__law_cuts : List Str := ["_law_row_here"]
theorem sc__law_cuts : FnScope N__law_cuts P__law_cuts (defScope s__law_cuts) := ⟨rfl, rfl, rfl, by decide +kernel, rfl, by decide +kernel, by decide +kernel⟩
abbrev s__law_plain : Stmt := top 18
abbrev N__law_plain : List Str := ["_law_deck_here", "_law_row_here", "_law_some"]
abbrev P__law_plain : List Str := ["_law_deck_here", "_law_row_here"]
theorem sc__law_plain : FnScope N__law_plain P__law_plain (defScope s__law_plain) := ⟨rfl, rfl, rfl, by decide +kernel, rfl, by decide +kernel, by decide +kernel⟩
abbrev s__law_changed : Stmt := top 19
abbrev N__law_changed : List Str := ["_law_deck_here", "_law_row_here", "_law_k", "_law_texts", "_law_loops", "_law_sort", "_law_spot", "_law_fresh", "_law_word_here", "_law_form_here", "_law_place"]
abbrev P__law_changed : List Str := ["_law_deck_here", "_law_row_here"]
theorem sc__law_changed : FnScope N__law_changed P__law_changed (defScope s__law_changed) := ⟨rfl, rfl, rfl, by decide +kernel, rfl, by decide +kernel, by decide +kernel⟩
abbrev s_law : Stmt := top 20
abbrev N_law : List Str := ["_law_script", "_law_deck_here", "_law_turn_here", "_law_program_here", "_law_row_here", "_law_due", "_law_some", "_law_again", "_law_one_here", "_law_held", "_law_told"]
abbrev P_law : List Str := ["_law_script"]
theorem sc_law : FnScope N_law P_law (defScope s_law) := ⟨rfl, rfl, rfl, by decide +kernel, rfl, by decide +kernel, by decide +kernel⟩
structure Tops (K : PySem.W.Frag) (mg : Str → Option Value) : Prop where
  t_root_of : Txt K mg "root_of" s_root_of P_root_of
  t_is_plain : Txt K mg "is_plain" s_is_plain P_is_plain
  t_law_deck : Txt K mg "_law_deck" s__law_deck P__law_deck
  t_law_draw : Txt K mg "_law_draw" s__law_draw P__law_draw
  t_law_one : Txt K mg "_law_one" s__law_one P__law_one
  t_law_word : Txt K mg "_law_word" s__law_word P__law_word
  t_law_form : Txt K mg "_law_form" s__law_form P__law_form
  t_law_parts : Txt K mg "_law_parts" s__law_parts P__law_parts
  t_law_row : Txt K mg "_law_row" s__law_row P__law_row
  t_law_size : Txt K mg "_law_size" s__law_size P__law_size
  t_law_program : Txt K mg "_law_program" s__law_program P__law_program
  t_law_put : Txt K mg "_law_put" s__law_put P__law_put
  t_law_turn_by : Txt K mg "_law_turn_by" s__law_turn_by P__law_turn_by
  t_law_turn : Txt K mg "_law_turn" s__law_turn P__law_turn
  t_law_cuts : Txt K mg "_law_cuts" s__law_cuts P__law_cuts
  t_law_plain : Txt K mg "_law_plain" s__law_plain P__law_plain
  t_law_changed : Txt K mg "_law_changed" s__law_changed P__law_changed
end Law

namespace Law
open PySem PySem.Spec PyProof.Rows L2 Ev
/-! ### the deck and what is drawn from it -/
def F_draw : DF := fun as n Q => ∃ m : Int, as = [.dk, .d (.int m)] ∧ 1 ≤ m ∧ m.natAbs < 2 ^ 8000 ∧ n < 1000000000 ∧ ∀ r : Int, 0 ≤ r → r < m → Q (.int r) (n + 1)
theorem ints_lay : ∀ cells : List Int, PyData.canLay0 (.list (cells.map PyData.int)) = true := by
  intro cells
  have : ∀ l : List Int, PyData.canLayAll0 (l.map PyData.int) = true := fun l => by
    induction l with
    | nil => rfl
    | cons a b ih => simp [PyData.canLayAll0, PyData.canLay0, ih]
  simpa [PyData.canLay0] using this cells
theorem ints_depth (cells : List Int) : PyData.depth (.list (cells.map PyData.int)) ≤ 64 := by
  have : ∀ l : List Int, PyData.depthAll (l.map PyData.int) ≤ 1 := fun l => by
    induction l with
    | nil => simp [PyData.depthAll]
    | cons a b ih => simp [PyData.depthAll, PyData.depth]; omega
  have := this cells
  simp only [PyData.depth]
  omega
theorem ints_shaped (cells : List Int) : SeqAt.shaped (.list (cells.map PyData.int)) = true := by
  unfold SeqAt.shaped
  rw [ints_lay, decide_eq_true (ints_depth cells)]
  rfl
theorem ints_dp {K : PySem.W.Frag} {H : Hp} : ∀ cells : List Int, DpAll K H (cells.map V.int) (cells.map PyData.int)
  | [] => .nil
  | a :: r => .cons (.int a) (ints_dp r)
theorem ints_eqv (cells : List Int) : PyData.eqv (.list (cells.map PyData.int)) (.list []) = cells.isEmpty := by
  cases cells <;> simp [PyData.eqv, PyData.eqvAll]
theorem fm_lo {a m : Int} (h : 1 ≤ m) : 0 ≤ a.fmod m := Int.fmod_nonneg_of_pos a (by omega)
theorem fm_hi {a m : Int} (h : 1 ≤ m) : a.fmod m < m := Int.fmod_lt_of_pos a (by omega)
section
variable {P : Program} {w : World} {K : PySem.W.Frag} {mg : Str → Option Value} {base : Heap} {f : Addr} {fd : FuncData} {k : Nat}
theorem fnG_nox {CX : CXT} {ps : List Str} {sp : Sp} {N : List Str} {x qual : Str} {st : Stmt} (F : Fun K x qual st f fd) (S : FnScope N ps (defScope st)) (len : ∀ vs H Q E, sp vs H Q E → vs.length = ps.length)
    (body : ∀ (cdv : Value) (A : Around) (o : List Env) (s : Shared) (H : Hp) (vs : List V) (Q : VK) (E : XK), Room k (A.deeper (envOfC qual (defScope st) s.heap.objs.size f cdv)) → A.guards = some [] → sp vs H Q E →
      ∃ t, PSs (cxOf CX P w K mg base N qual (defScope st) f cdv A o s H E).nox (defBody st) t ∧ t { nx := fun _ H' => Q .non H', rt := Q } (L2.start N vs) H) : FnG P w K mg base CX (k + 1) f fd ps sp :=
  fnG_of F S len fun cdv A o s H vs Q E hr hg h => by
    obtain ⟨t, b, h⟩ := body cdv A o s H vs Q E hr hg h
    exact ⟨t, b.nox, h⟩
theorem deck_upd {g : Gd} {n : Nat} {H : Hp} {p q : Int} (hc : g.c ≠ g.dk) (hl : g.cells.length ≤ 63) (h1 : H g.c = some (.lst (g.cells.map V.int))) (hq : 0 ≤ q) : Deck g n (upd H g.dk (.lst [.ref g.c, .int p, .int q, .int n])) :=
  ⟨hc, hl, by rw [upd_ne hc]; exact h1, p, q, hq, upd_same⟩
theorem ok_draw (U : Fun K "_law_draw" "_law_draw" s__law_draw f fd) (m_int : mg "int" = none) (m_len : mg "len" = none) (m_abs : mg "abs" = none) : FnG P w K mg base CX0 (k + 1) f fd P__law_draw (spD F_draw) := by
  have nd := sc__law_draw.nd
  refine fnG_nox U sc__law_draw (fun vs H Q E q => ?_) (fun cdv A o s H vs Q E hr hg q => ?_)
  · obtain ⟨g, n, as, Q1, _, r, ⟨m, rfl, _⟩, _⟩ := q
    exact r.len
  obtain ⟨g, n, as, Q1, d, r, ⟨m, rfl, hm, hb, hn, hq⟩, back⟩ := q
  cases r with
  | cons r1 r =>
  cases r with
  | cons r2 r =>
  cases r
  have r1 : _ = V.ref g.dk := r1
  subst r1
  cases r2
  obtain ⟨⟨hc, hl, h1, p, z, hz, h2⟩, hhid⟩ := d
  refine ⟨_, pss_cons (ps_asg (pe_op op_add (pe_ix ix_list (pv 0) pe_int (fun _ _ => rfl)) pe_int) (pg_sub (pv 0) pe_int set_list))
    (pss_cons (ps_if (pt_cmpR op_gt (pe_ix ix_list (pv 0) pe_int (fun _ _ => rfl)) pe_int (nomark _))
      (pss_cons (ps_set (i := 2) nd rfl (Or.inl rfl) (pe_op op_modN (pe_callTy call_int1 rfl m_int (by decide +kernel) (pa_cons (pe_ix ix_list (pv 0) pe_int (fun _ _ => rfl)) pa_nil)) (pv 1)))
      (pss_cons (ps_asg (pe_op op_fdivW (pe_ix ix_list (pv 0) pe_int (fun _ _ => rfl)) (pv 1)) (pg_sub (pv 0) pe_int set_list))
      (pss_one (ps_ret (pv 2))))) pss_nil)
    (pss_cons (ps_set (i := 3) nd rfl (Or.inl rfl) pe_int)
    (Evl.pss_cut (ps_if (pt_cmpR (op_neD hr.units) (pe_ix ix_list (pv 0) pe_int (fun _ _ => rfl)) (pe_lst pa_nil) (nomark _))
      (pss_one (ps_set (i := 3) nd rfl (Or.inl rfl) (pe_ix ix_list (pe_ix ix_list (pv 0) pe_int (fun _ _ => rfl)) (pe_op op_modN (pe_callTy call_int1 rfl m_int (by decide +kernel) (pa_cons (pe_ix ix_list (pv 0) pe_int (fun _ _ => rfl)) pa_nil)) (pe_callB call_len_seq rfl m_len (by decide +kernel) (pa_cons (pe_ix ix_list (pv 0) pe_int (fun _ _ => rfl)) pa_nil))) (fun _ _ => rfl)))) pss_nil)
    (pss_cons (ps_asg (pe_op op_add (pe_ix ix_list (pv 0) pe_int (fun _ _ => rfl)) pe_int) (pg_sub (pv 0) pe_int set_list))
    (Evl.pss_cut (ps_if (PW.pt (pw_and (pt_cmpR op_ge (pe_callB call_abs rfl m_abs (by decide +kernel) (pa_cons (pv 3) pa_nil)) (pe_op op_pow pe_int pe_int) (nomark _))
        (pw_and1 (pt_cmpR op_le (pe_ix ix_list (pv 0) pe_int (fun _ _ => rfl)) (pe_callB call_len_seq rfl m_len (by decide +kernel) (pa_cons (pe_ix ix_list (pv 0) pe_int (fun _ _ => rfl)) pa_nil)) (nomark _)))))
      (pss_cons (ps_asg (pe_op op_fdivW (pe_callB call_abs rfl m_abs (by decide +kernel) (pa_cons (pv 3) pa_nil)) (pv 1)) (pg_sub (pv 0) pe_int set_list))
      (pss_one (ps_ret (pe_op op_modN (pe_callTy call_int1 rfl m_int (by decide +kernel) (pa_cons (pe_callB call_abs rfl m_abs (by decide +kernel) (pa_cons (pv 3) pa_nil)) pa_nil)) (pv 1))))) pss_nil)
    (pss_cons (ps_set (i := 4) nd rfl (Or.inl rfl) (pe_op op_modN (pe_op op_pow (pe_callTy call_int1 rfl m_int (by decide +kernel) (pa_cons (pe_op op_add (pe_op op_modN (pe_callTy call_int1 rfl m_int (by decide +kernel) (pa_cons (pv 3) pa_nil)) pe_int) (pe_op op_mul pe_int (pe_ix ix_list (pv 0) pe_int (fun _ _ => rfl)))) pa_nil)) pe_int) pe_int))
    (pss_cons (ps_set (i := 4) nd rfl (Or.inl rfl) (pe_op op_modN (pe_op op_pow (pe_callTy call_int1 rfl m_int (by decide +kernel) (pa_cons (pe_op op_add (pe_op op_mul (pv 4) (pe_op op_add (pe_op op_mul pe_int (pe_ix ix_list (pv 0) pe_int (fun _ _ => rfl))) pe_int)) pe_int) pa_nil)) pe_int) pe_int))
    (pss_one (ps_ret (pe_op op_modN (pe_op op_fdivW (pv 4) pe_int) (pv 1))))))))))), ?_⟩
  have hm0 : m ≠ 0 := by omega
  have hdv : CDivW z m := ⟨by omega, Nat.lt_of_lt_of_le (PySem.Flt.log2_lt_of (by decide) hb) (by decide)⟩
  -- what is given back at the end
  have fin : ∀ (H1 : Hp) (r p' q' : Int), 0 ≤ q' → (∀ a o, a ≠ g.dk → H a = some o → H1 a = some o) → H1 g.dk = some (.lst [.ref g.c, .int p', .int q', .int ((n + 1 : Nat) : Int)]) → 0 ≤ r → r < m → Q (.int r) H1 := fun H1 r p' q' hq' e1 h2' r0 r1 =>
    back (.int r) (n + 1) (.int r) H1 (hq r r0 r1) e1 ⟨hc, hl, e1 _ _ hc h1, p', q', hq', h2'⟩ (.int r)
  -- deck[3] = deck[3] + 1
  refine ⟨_, rfl, g.dk, _, 3, _, rfl, rfl, SqL.of h2, rfl, _, _, rfl, rfl, _, rfl, g.dk, _, 3, 3, rfl, rfl, h2, rfl, ?_⟩
  have ed1 : ∀ {X : HO} {a : Addr} {o : HO}, a ≠ g.dk → H a = some o → upd H g.dk X a = some o := fun {X a o} ha h => by rw [upd_ne ha]; exact h
  have hk : (n : Int) + 1 = ((n + 1 : Nat) : Int) := by omega
  have q1 : upd H g.dk (.lst ([.ref g.c, .int p, .int z, .int n].set 3 (.int ((n : Int) + 1)))) g.dk = some (.lst [.ref g.c, .int p, .int z, .int ((n + 1 : Nat) : Int)]) := by rw [upd_same, ← hk] <;> rfl
  have e1 : ∀ a o, a ≠ g.dk → H a = some o → upd H g.dk (.lst ([.ref g.c, .int p, .int z, .int n].set 3 (.int ((n : Int) + 1)))) a = some o := fun a o ha h => ed1 ha h
  revert q1 e1
  generalize upd H g.dk (.lst ([.ref g.c, .int p, .int z, .int n].set 3 (.int ((n : Int) + 1)))) = H1
  intro q1 e1
  have c1 := e1 _ _ hc h1
  refine ⟨_, rfl, g.dk, _, 2, _, rfl, rfl, SqL.of q1, rfl, _, _, rfl, rfl, _, rfl, ?_⟩
  refine ite2 (fun ht => ?_) (fun ht => ?_)
  · refine ⟨_, rfl, g.dk, _, 2, _, rfl, rfl, SqL.of q1, rfl, .inl ⟨z, rfl, _, rfl, z, m, rfl, rfl, hm0, ?_⟩⟩
    refine ⟨_, rfl, g.dk, _, 2, _, rfl, rfl, SqL.of q1, rfl, _, rfl, z, m, rfl, rfl, hdv, _, rfl, g.dk, _, 2, 2, rfl, rfl, q1, rfl, ?_⟩
    refine ⟨_, rfl, fin _ _ p (z / m) (Int.ediv_nonneg hz (by omega)) (fun a o ha h => by rw [upd_ne ha]; exact e1 a o ha h) (by rw [upd_same] <;> rfl) (fm_lo hm) (fm_hi hm)⟩
  -- cell
  refine ⟨fun σ' H' => ∃ cell : Int, σ' = [some (.ref g.dk), some (.int m), none, some (.int cell), none] ∧ (∀ a o, a ≠ g.dk → H a = some o → H' a = some o) ∧ H' g.dk = some (.lst [.ref g.c, .int p, .int z, .int ((n + 1 : Nat) : Int)]), ?_, fun σ' H2 hmid => ?_⟩
  · refine ⟨_, rfl, g.dk, _, 0, _, rfl, rfl, SqL.of q1, rfl, Nat.zero_le _, fun nl hnl => ?_⟩
    have hne : nl ≠ g.dk := fun e => by rw [e, q1] at hnl; cases hnl
    have sm := Ev.same_new (.lst []) hnl
    have q1' := sm _ _ q1
    have e1' : ∀ a o, a ≠ g.dk → H a = some o → upd H1 nl (.lst []) a = some o := fun a o ha h => sm _ _ (e1 a o ha h)
    have c1' := sm _ _ c1
    have l0 : upd H1 nl (.lst []) nl = some (.lst []) := upd_same
    revert q1' e1' c1' l0
    generalize upd H1 nl (.lst []) = H2
    intro q1' e1' c1' l0
    refine ⟨.list (g.cells.map PyData.int), .list [], .lst (SqL.of c1') (ints_dp _), .lst (SqL.of l0) .nil, ints_shaped _, by decide, _, rfl, ?_⟩
    rw [ints_eqv]
    refine ite2 (fun he => ?_) (fun he => ⟨31, rfl, e1', q1'⟩)
    have hpos : 0 < g.cells.length := by
      cases hcs : g.cells with
      | nil => rw [hcs] at he; cases he
      | cons a b => simp
    have hlen : (g.cells.map V.int).length = g.cells.length := List.length_map _
    refine ⟨_, rfl, g.dk, _, 0, _, rfl, rfl, SqL.of q1', rfl, _, rfl, g.dk, _, 1, _, rfl, rfl, SqL.of q1', rfl, .inl ⟨p, rfl, _, rfl, g.dk, _, 0, _, rfl, rfl, SqL.of q1', rfl, g.c, _, rfl, .inl (SqL.of c1'), p, _, rfl, rfl, ?_, ?_⟩⟩
    · rw [hlen]; omega
    · have a0 : 0 ≤ p.fmod ((g.cells.map V.int).length : Nat) := by rw [hlen]; exact fm_lo (by omega)
      have a1 : p.fmod ((g.cells.map V.int).length : Nat) < g.cells.length := by rw [hlen]; exact fm_hi (by omega)
      obtain ⟨ix, hx, hix⟩ : ∃ j : Nat, p.fmod ((g.cells.map V.int).length : Nat) = (j : Int) ∧ j < g.cells.length := ⟨(p.fmod ((g.cells.map V.int).length : Nat)).toNat, by omega, by omega⟩
      refine ⟨g.c, _, (ix : Int), .int g.cells[ix], rfl, congrArg V.int hx, SqL.of c1', ?_, g.cells[ix], rfl, e1', q1'⟩
      exact atI_nat (by rw [List.getElem?_map, List.getElem?_eq_getElem hix] <;> rfl)
  obtain ⟨cell, rfl, e2, q2⟩ := hmid
  have c2 := e2 _ _ hc h1
  -- deck[1] = deck[1] + 1
  refine ⟨_, rfl, g.dk, _, 1, _, rfl, rfl, SqL.of q2, rfl, _, _, rfl, rfl, _, rfl, g.dk, _, 1, 1, rfl, rfl, q2, rfl, ?_⟩
  have q3 : upd H2 g.dk (.lst ([.ref g.c, .int p, .int z, .int ((n + 1 : Nat) : Int)].set 1 (.int (p + 1)))) g.dk = some (.lst [.ref g.c, .int (p + 1), .int z, .int ((n + 1 : Nat) : Int)]) := by rw [upd_same] <;> rfl
  have e3 : ∀ a o, a ≠ g.dk → H a = some o → upd H2 g.dk (.lst ([.ref g.c, .int p, .int z, .int ((n + 1 : Nat) : Int)].set 1 (.int (p + 1)))) a = some o := fun a o ha h => by rw [upd_ne ha]; exact e2 a o ha h
  revert q3 e3
  generalize upd H2 g.dk (.lst ([.ref g.c, .int p, .int z, .int ((n + 1 : Nat) : Int)].set 1 (.int (p + 1)))) = H3
  intro q3 e3
  have c3 := e3 _ _ hc h1
  have pw : CPow 10 18 := ⟨by decide, by decide, by decide⟩
  refine ⟨fun σ' H' => σ' = [some (.ref g.dk), some (.int m), none, some (.int cell), none] ∧ H' = H3, ?_, fun σ' H4 hmid => ?_⟩
  · refine ⟨_, rfl, cell, rfl, _, _, rfl, rfl, pw, _, _, rfl, rfl, _, rfl, ?_⟩
    refine ite2 (fun hbig => ?_) (fun hbig => iteF ⟨rfl, rfl⟩)
    refine ⟨_, rfl, g.dk, _, 1, _, rfl, rfl, SqL.of q3, rfl, _, rfl, g.dk, _, 0, _, rfl, rfl, SqL.of q3, rfl, g.c, _, rfl, .inl (SqL.of c3), _, _, rfl, rfl, _, rfl, ?_⟩
    refine ite2 (fun hin => ?_) (fun hin => ⟨rfl, rfl⟩)
    have nb : (0 : Int) ≤ (if cell < 0 then -cell else cell) := by split <;> omega
    refine ⟨_, rfl, cell, rfl, _, rfl, _, m, rfl, rfl, hdv, _, rfl, g.dk, _, 2, 2, rfl, rfl, q3, rfl, ?_⟩
    refine ⟨_, rfl, cell, rfl, .inl ⟨_, rfl, _, rfl, _, m, rfl, rfl, hm0, fin _ _ (p + 1) ((if cell < 0 then -cell else cell) / m) (Int.ediv_nonneg nb (by omega)) (fun a o ha h => by rw [upd_ne ha]; exact e3 a o ha h) (by rw [upd_same] <;> rfl) (fm_lo hm) (fm_hi hm)⟩⟩
  obtain ⟨rfl, rfl⟩ := hmid
  -- the mixing
  have f1 : ∀ a : Int, 0 ≤ a.fmod 2147483629 ∧ a.fmod 2147483629 < 2147483629 := fun a => ⟨Int.fmod_nonneg_of_pos a (by decide), Int.fmod_lt_of_pos a (by decide)⟩
  have f2 : ∀ a : Int, 0 ≤ a.fmod 2147483647 ∧ a.fmod 2147483647 < 2147483647 := fun a => ⟨Int.fmod_nonneg_of_pos a (by decide), Int.fmod_lt_of_pos a (by decide)⟩
  obtain ⟨x1, hx1⟩ : ∃ x, x = cell.fmod 2147483629 := ⟨_, rfl⟩
  have b1 := f1 cell
  rw [← hx1] at b1
  refine ⟨_, rfl, .inl ⟨cell, rfl, cell, _, rfl, rfl, (by show (2147483629 : Int) ≠ 0; decide), _, rfl, g.dk, _, 3, _, rfl, rfl, SqL.of q3, rfl, _, _, rfl, rfl, .inl ⟨by decide, by decide⟩, _, _, rfl, rfl, .inl ⟨_, rfl, _, _, rfl, rfl, ⟨by decide, by decide, ?_⟩, _, _, rfl, rfl, (by show (2147483647 : Int) ≠ 0; decide), ?_⟩⟩⟩
  · rw [← hx1]
    have : (104723 : Int) * ((n + 1 : Nat) : Int) ≤ 104723 * 1000000000 := Int.mul_le_mul_of_nonneg_left (by omega) (by decide)
    omega
  obtain ⟨x2, hx2⟩ : ∃ x, x = (((cell.fmod 2147483629 + 104723 * ((n + 1 : Nat) : Int)) ^ (5 : Int).toNat).fmod 2147483647) := ⟨_, rfl⟩
  have b2 := f2 ((cell.fmod 2147483629 + 104723 * ((n + 1 : Nat) : Int)) ^ (5 : Int).toNat)
  rw [← hx2] at b2
  refine ⟨_, rfl, _, rfl, g.dk, _, 3, _, rfl, rfl, SqL.of q3, rfl, _, _, rfl, rfl, .inl ⟨by decide, by decide⟩, _, _, rfl, rfl, x2, _, by rw [hx2], rfl, .inl ⟨by omega, by omega⟩, _, _, rfl, rfl, .inl ⟨_, rfl, _, _, rfl, rfl, ⟨by decide, by decide, ?_⟩, _, _, rfl, rfl, (by show (2147483587 : Int) ≠ 0; decide), ?_⟩⟩
  · have : x2 * (2 * ((n + 1 : Nat) : Int) + 3) ≤ 2147483647 * (2 * 1000000000 + 3) := Int.mul_le_mul (by omega) (by omega) (by omega) (by decide)
    have h0 : 0 ≤ x2 * (2 * ((n + 1 : Nat) : Int) + 3) := Int.mul_nonneg b2.1 (by omega)
    omega
  refine ⟨_, rfl, _, _, rfl, rfl, ⟨by decide, by decide⟩, _, rfl, _, m, rfl, rfl, hm0, fin _ _ (p + 1) z hz e3 q3 (fm_lo hm) (fm_hi hm)⟩
end
end Law

namespace Law
open PySem PySem.Spec PyProof.Rows L2 Ev
/-! ### the deck made, the law's def called with the script -/
section
variable {P : Program} {w : World} {K : PySem.W.Frag} {mg : Str → Option Value} {base : Heap}
/-- the script in, the deck back -/
def spDeck (K : PySem.W.Frag) : Sp := fun vs H Q _ => ∃ (a : Addr) (ns : List Int), vs = [.ref a] ∧ SqL K H a (ns.map V.int) ∧ ns.length ≤ 63 ∧ ∀ (H' : Hp) (g : Gd), Same H H' → Deck g 0 H' → Hid g.h H' → Q (.ref g.dk) H'
theorem c_deck (T : Txt K mg "_law_deck" s__law_deck P__law_deck) (B : Blt mg) : Cal P w K mg base "_law_deck" P__law_deck 1 (spDeck K) := T.cal fun f fd U => by
  refine fnG_nox U sc__law_deck (fun vs H Q E q => by obtain ⟨a, ns, rfl, _⟩ := q; rfl) (fun cdv A o s H vs Q E hr hg q => ?_)
  refine ⟨_, PLB.ps (b_one (s_ret (l_lst (a_cons (g_ (l_callT (kb_list (K := K) (by rfl)) (by rfl) B.list (by decide +kernel) (a_cons (g_ (k_sl (K := K) (by rfl) (lv 0) o_none (o_some l_int))) a_nil))) (a_cons (g_ l_int) (a_cons (g_ l_int) (a_cons (g_ l_int) a_nil))))))), ?_⟩
  obtain ⟨a, ns, rfl, hS, hl, hq⟩ := q
  have hcut : cutV (ns.map V.int) none (some 63) = ns.map V.int := by
    unfold cutV
    rw [HT.sIx_none, List.drop_zero, Nat.sub_zero]
    exact List.take_of_length_le (by show _ ≤ min 63 _; rw [List.length_map]; omega)
  refine ⟨.ref a, rfl, 63, rfl, .inl (.inl ⟨a, _, rfl, hS, fun p hp => ?_⟩)⟩
  rw [hcut]
  refine ⟨p, _, rfl, .inl (SqL.of upd_same), fun c hc => ⟨by show 4 ≤ sizeLine; decide, fun d hd => ?_⟩⟩
  have s1 := Ev.same_new (.lst (ns.map V.int)) hp
  have s2 := Ev.same_new (.lst (ns.map V.int)) hc
  have s3 := Ev.same_new (.lst [.ref c, .int 0, .int 0, .int 0]) hd
  have hcd : c ≠ d := fun e => by
    subst e
    rw [upd_same] at hd
    cases hd
  refine hq _ ⟨d, c, ns, w0 d, w0_dk⟩ (fun b o q => s3 _ _ (s2 _ _ (s1 _ _ q))) ⟨hcd, hl, s3 _ _ upd_same, 0, 0, Int.le_refl _, upd_same⟩ fun b hb => ?_
  have e : b = d := by
    cases z : w0 d b with
    | none =>
      have hb : (w0 d b).isSome = true := hb
      rw [z] at hb; cases hb
    | some j =>
      unfold w0 at z
      split at z
      · assumption
      · cases z
  subst e
  exact ⟨_, upd_same⟩
def spLaw (K : PySem.W.Frag) : Sp := fun vs H Q _ => ∃ (a : Addr) (ns : List Int), vs = [.ref a] ∧ SqL K H a (ns.map V.int) ∧ ns.length ≤ 63 ∧ ∀ H', Q (.bl true) H'
def firstS : List S := .un :: .dk :: List.replicate (N_law.length - 2) .un
theorem ok_first {g : Gd} {H : Hp} {v : V} (d : Deck g 0 H) (hh : Hid g.h H) : Ok g H ((L2.start N_law [v]).set 1 (some (.ref g.dk))) H firstS 0 g.h := by
  refine ⟨rfl, Ed.refl _ _, d, fun _ q => q, hh, fun a ha => .inl ha, fun i s hs => ?_⟩
  match i with
  | 0 => cases hs; trivial
  | 1 => cases hs; rfl
  | k + 2 =>
    have hs : (List.replicate (N_law.length - 2) S.un)[k]? = some s := hs
    rw [List.eq_of_mem_replicate (List.mem_of_getElem? hs)]
    trivial
/-- the law's def, from its body behind the first statement -/
theorem law_frame {k : Nat} {f : Addr} {fd : FuncData} (h1 : 1 ≤ k) (C__law_deck : Cal P w K mg base "_law_deck" P__law_deck 1 (spDeck K)) (U : Fun K "law" "law" s_law f fd)
    (body : ∀ (cdv : Value) (A : Around) (o : List Env) (s : Shared) (H : Hp) (E : XK), Room k (cxB P w K mg base N_law "law" s_law f cdv A o s H E).A → (cxB P w K mg base N_law "law" s_law f cdv A o s H E).A.guards = some [] →
      ∃ t p, PLB (cxB P w K mg base N_law "law" s_law f cdv A o s H E) ((defBody s_law).drop 1) t p ∧ ∀ (g : Gd) (n : Nat), n = 0 → p { nx := fun _ _ => False, rt := fun d _ => d = .bool true } firstS n) :
    FnG P w K mg base CX0 (k + 1) f fd P_law (spLaw K) := by
  refine fnG_nox U sc_law (fun vs H Q E q => by obtain ⟨a, ns, rfl, _⟩ := q; rfl) (fun cdv A o s H vs Q E hr hg q => ?_)
  obtain ⟨fD, fdD, GD, mD, kD, bD⟩ := C__law_deck
  obtain ⟨tB, pB, BB, hB⟩ := body cdv A o s H E hr hg
  refine ⟨_, pss_cons (ps_set (i := 1) sc_law.nd rfl (by first | exact Or.inl rfl | exact Or.inr rfl) (pe_callG GD (hr.mono h1) hg (by rfl) mD kD bD pass0 (pa_cons (pv 0) pa_nil))) BB.ps, ?_⟩
  obtain ⟨a, ns, rfl, hS, hl, hq⟩ := q
  refine ⟨.ref a, rfl, a, ns, rfl, hS, hl, fun H' g e1 d1 hh => ?_⟩
  refine BB.lf g H' _ H' _ 0 g.h _ _ (ok_first d1 hh) (hB g 0 rfl) ⟨fun _ _ _ _ _ _ _ h' => h'.elim, fun _ _ _ _ _ _ _ h' => h'.elim, fun _ _ _ _ _ _ _ h' => h'.elim, fun v H2 dd n' e1 d1 r1 h1 => ?_, fun _ _ _ _ _ _ _ _ _ _ h' => h'.elim, fun _ _ _ _ _ _ _ _ h' => h'.elim⟩
  have h1 : dd = .bool true := h1
  subst h1
  cases r1
  exact hq _
end
end Law

namespace Law
open PySem PySem.Spec PyProof.Rows L2 Ev
/-! ### programs -/
inductive Part where
  | text (w : Str)
  | loop (f : List Nat) (ps : List Part)
def fmD (f : List Nat) : PyData := .tuple (f.map fun (x : Nat) => PyData.int (x : Int))
mutual
def Part.data : Part → PyData
  | .text w => .tuple [.str "text", .str w]
  | .loop f ps => .tuple [.str "loop", fmD f, .tuple (dataAll ps)]
def dataAll : List Part → List PyData
  | [] => []
  | p :: r => p.data :: dataAll r
end
theorem dataAll_map : ∀ ps : List Part, dataAll ps = ps.map Part.data
  | [] => rfl
  | p :: r => by rw [dataAll, dataAll_map r]; rfl
def isOpen (f : List Nat) : Bool := f.tail.any (· != 0)
def abc (w : Str) : Prop := ∀ c ∈ w.cps.toList, 97 ≤ c ∧ c ≤ 122
mutual
def Part.dep : Part → Nat
  | .text _ => 0
  | .loop _ ps => depAll ps + 1
def depAll : List Part → Nat
  | [] => 0
  | p :: r => max p.dep (depAll r)
end
theorem depAll_le {d : Nat} : ∀ {ps : List Part}, depAll ps ≤ d ↔ ∀ p ∈ ps, p.dep ≤ d
  | [] => by simp [depAll]
  | p :: r => by simp [depAll, depAll_le (ps := r), Nat.max_le]
theorem NL_fm (f : List Nat) : NL (fmD f) = true := by
  unfold fmD NL
  exact NLA_map fun _ _ => rfl
mutual
theorem NL_data : ∀ p : Part, NL p.data = true
  | .text w => rfl
  | .loop f ps => by
    simp only [Part.data, NL, NLA, NL_datas ps, Bool.and_true, Bool.true_and]
    exact NL_fm f
theorem NL_datas : ∀ ps : List Part, NLA (dataAll ps) = true
  | [] => rfl
  | p :: r => by simp only [dataAll, NLA, NL_data p, NL_datas r, Bool.and_self]
end
theorem abc1 {c : Nat} (h : 97 ≤ c ∧ c ≤ 122) : abc ⟨#[c]⟩ := fun d hd => by
  have : d = c := by simpa using hd
  rw [this]
  exact h
section
variable {P : Program} {w : World} {K : PySem.W.Frag} {mg : Str → Option Value} {base : Heap}
def F_one : DF := fun as n Q => n < 1000000000 ∧ ((∃ xs : List PyData, as = [.dk, .d (.list xs)] ∧ 1 ≤ xs.length ∧ xs.length ≤ 1000000 ∧ ∀ x ∈ xs, Q x (n + 1)) ∨
  (∃ z : Str, as = [.dk, .d (.str z)] ∧ 1 ≤ z.length ∧ z.length ≤ 1000000 ∧ ∀ c ∈ z.cps.toList, Q (.str ⟨#[c]⟩) (n + 1)))
theorem small8000 {m : Int} (h0 : 0 ≤ m) (h : m ≤ 10 ^ 40) : m.natAbs < 2 ^ 8000 := by
  have h1 : m.natAbs ≤ 10 ^ 40 := by omega
  have h2 : (10 : Nat) ^ 40 < 2 ^ 8000 := by
    have : (10 : Nat) ^ 40 < 2 ^ 140 := by decide
    exact Nat.lt_of_lt_of_le this (Nat.pow_le_pow_right (by decide) (by decide))
  omega
theorem sz6 {n : Nat} (h : n ≤ 1000000) : n ≤ sizeLine := Nat.le_trans h (by decide)
theorem atI_mem {α : Type} {xs : List α} {r : Int} (h0 : 0 ≤ r) (h : r < xs.length) : ∃ x, atI xs r = some x ∧ x ∈ xs := by
  obtain ⟨j, rfl⟩ : ∃ j : Nat, r = j := ⟨r.toNat, by omega⟩
  have hj : j < xs.length := by omega
  exact ⟨xs[j], by rw [atI_ofNat, List.getElem?_eq_getElem hj], List.getElem_mem hj⟩
theorem c_one (T : Txt K mg "_law_one" s__law_one P__law_one) (B : Blt mg) (C__law_draw : Cal P w K mg base "_law_draw" P__law_draw 1 (spD F_draw)) : Cal P w K mg base "_law_one" P__law_one 2 (spD F_one) := by
  refine T.def sc__law_one (fun as n Q h => by rcases h with ⟨_, ⟨xs, rfl, _⟩ | ⟨xs, rfl, _⟩⟩ <;> rfl) (fun f cdv A o s H E hr hg => ⟨_, (b_one (s_ret (k_ix (K := K) (by rfl) (lv 1) (l_cal C__law_draw (hr.mono (by omega)) hg (by rfl) (a_cons (gv 0) (a_cons (g_ (l_callB (kb_len (K := K) (by rfl)) (by rfl) B.len (by decide +kernel) (a_cons (gv 1) a_nil))) a_nil))))))⟩) (fun as n Q h => ?_)
  obtain ⟨hn, ⟨xs, rfl, h1, h2, h3⟩ | ⟨z, rfl, h1, h2, h3⟩⟩ := h
  · simp (config := { maxSteps := 1000000 }) only [dIsi, Kd.of, dSetA, dAsgTA, dAppA, dExt, dgLst, dParLL, qSum2_l, qSum2_t, unS_d, unS_own, unS_dk, unS_un, qLe2_i, qLe2_s, qAll_l, dExt2, dPar3, dFind3, dRevS, diEnum, dSeq, dSet, dSetL, dRet, dRetO, dRetL, dIfS, dNext, dApp, dSetIx, dVar, dC, dOp, dFn, dFnL, dCons, dNil, dArg, dArgV, onD, datas, dTup, dLst, dLstL, dOfL, dAddL, dMulL, dIf, dTest, dTru, dNot, dAnd, dOr, dNotV, dAndV, dOrV, dSl, dPart, dNoPart, dCall, dMt, qAdd_i, qAdd_s, qAdd_t, qAdd_l, qSub_i, qDiv_i, qMod_i, qPow_i, qMul_i, qMul_s, qMul_t, qMul_l, qLt_i, qLe_i, qGt_i, qGe_i, qIx_l, qIx_t, qIx_s, qSl_l, qSl_t, qSl_s, qLen_l, qLen_t, qLen_s, qInt_i, qInt_b, qMin_i, qMax_i, qTup_l, qTup_t, qLst_l, qLst_t, qTru_n, qTru_b, qTru_i, qTru_s, qTru_l, qTru_t, qSum_l, qAny_l, qAny_t, qJoin_l, qCount_s, qEq_e, qNe_e, qRepr_e, dAsgT, dNeg, qNeg_i, dgTup, dgCons, dgName, dgNil, dPar, diR1, diOwn, diSeq, diL, diZip, diZipM, diVar, dParL, startS, toS, List.map_cons, List.map_nil, List.length_cons, List.length_nil, List.replicate, List.cons_append, List.nil_append, List.append_nil, List.getElem?_cons_zero, List.getElem?_cons_succ, List.set_cons_zero, List.set_cons_succ, Nat.reduceSub, Nat.reduceAdd, wipeS, canD, if_true, if_false, ite_true, ite_false, Bool.false_eq_true, PyData.bool.injEq, exists_eq_left', exists_eq_left, shp_i, shp_s, shp_b, shp_n, shp_e, shp_z, eqv_tt, eqv_lt, eqv_i, true_and, ix0, ix1, ix2, Option.some.injEq, PyData.tuple.injEq, PyData.list.injEq, PyData.int.injEq, PyData.str.injEq, S.own.injEq]
    refine ⟨xs.length, rfl, by omega, small8000 (by omega) (by omega), hn, fun r r0 r1 => ?_⟩
    obtain ⟨x, e, hx⟩ := atI_mem r0 r1
    exact ⟨x, e, h3 _ hx⟩
  · simp (config := { maxSteps := 1000000 }) only [dIsi, Kd.of, dSetA, dAsgTA, dAppA, dExt, dgLst, dParLL, qSum2_l, qSum2_t, unS_d, unS_own, unS_dk, unS_un, qLe2_i, qLe2_s, qAll_l, dExt2, dPar3, dFind3, dRevS, diEnum, dSeq, dSet, dSetL, dRet, dRetO, dRetL, dIfS, dNext, dApp, dSetIx, dVar, dC, dOp, dFn, dFnL, dCons, dNil, dArg, dArgV, onD, datas, dTup, dLst, dLstL, dOfL, dAddL, dMulL, dIf, dTest, dTru, dNot, dAnd, dOr, dNotV, dAndV, dOrV, dSl, dPart, dNoPart, dCall, dMt, qAdd_i, qAdd_s, qAdd_t, qAdd_l, qSub_i, qDiv_i, qMod_i, qPow_i, qMul_i, qMul_s, qMul_t, qMul_l, qLt_i, qLe_i, qGt_i, qGe_i, qIx_l, qIx_t, qIx_s, qSl_l, qSl_t, qSl_s, qLen_l, qLen_t, qLen_s, qInt_i, qInt_b, qMin_i, qMax_i, qTup_l, qTup_t, qLst_l, qLst_t, qTru_n, qTru_b, qTru_i, qTru_s, qTru_l, qTru_t, qSum_l, qAny_l, qAny_t, qJoin_l, qCount_s, qEq_e, qNe_e, qRepr_e, dAsgT, dNeg, qNeg_i, dgTup, dgCons, dgName, dgNil, dPar, diR1, diOwn, diSeq, diL, diZip, diZipM, diVar, dParL, startS, toS, List.map_cons, List.map_nil, List.length_cons, List.length_nil, List.replicate, List.cons_append, List.nil_append, List.append_nil, List.getElem?_cons_zero, List.getElem?_cons_succ, List.set_cons_zero, List.set_cons_succ, Nat.reduceSub, Nat.reduceAdd, wipeS, canD, if_true, if_false, ite_true, ite_false, Bool.false_eq_true, PyData.bool.injEq, exists_eq_left', exists_eq_left, shp_i, shp_s, shp_b, shp_n, shp_e, shp_z, eqv_tt, eqv_lt, eqv_i, true_and, ix0, ix1, ix2, Option.some.injEq, PyData.tuple.injEq, PyData.list.injEq, PyData.int.injEq, PyData.str.injEq, S.own.injEq]
    refine ⟨sz6 h2, z.length, rfl, by omega, small8000 (by omega) (by omega), hn, fun r r0 r1 => ⟨sz6 h2, ?_⟩⟩
    obtain ⟨x, e, hx⟩ := atI_mem (xs := z.cps.toList) r0 (by rw [← str_len]; exact r1)
    exact ⟨x, e, h3 _ hx⟩
theorem use_draw {m : Int} {n : Nat} {Q : DQ} (h1 : 1 ≤ m) (h2 : m ≤ 10 ^ 40) (hn : n < 1000000000) (h : ∀ r : Nat, (r : Int) < m → Q (.int r) (n + 1)) : F_draw [.dk, .d (.int m)] n Q :=
  ⟨m, rfl, h1, small8000 (by omega) h2, hn, fun r r0 r1 => by
    have e : r = ((r.toNat : Nat) : Int) := by omega
    rw [e] at r1 ⊢
    exact h _ r1⟩
theorem use_one {xs : List PyData} {n : Nat} {Q : DQ} (h1 : 1 ≤ xs.length) (h2 : xs.length ≤ 1000000) (hn : n < 1000000000) (h : ∀ x ∈ xs, Q x (n + 1)) : F_one [.dk, .d (.list xs)] n Q := ⟨hn, .inl ⟨xs, rfl, h1, h2, h⟩⟩
abbrev fI (f : List Nat) : List PyData := f.map fun (x : Nat) => PyData.int (x : Int)
theorem nats_of {b : Nat} : ∀ {l : List PyData}, (∀ y ∈ l, ∃ a : Nat, y = .int a ∧ a ≤ b) → ∃ f : List Nat, l = fI f ∧ ∀ x ∈ f, x ≤ b
  | [], _ => ⟨[], rfl, fun x h => by cases h⟩
  | y :: r, h => by
    obtain ⟨a, rfl, ha⟩ := h y List.mem_cons_self
    obtain ⟨f, rfl, hf⟩ := nats_of fun z hz => h z (List.mem_cons_of_mem _ hz)
    exact ⟨a :: f, rfl, fun x hx => (List.mem_cons.mp hx).elim (fun e => by rw [e]; exact ha) (hf x)⟩
theorem cut_tail {α : Type} (xs : List α) : cut xs (some 1) none = xs.tail := by
  unfold cut
  rw [HT.sIx_none, show HT.sIx xs.length 0 (some 1) = min 1 xs.length from HT.sIx_nat xs.length 0 1]
  cases xs with
  | nil => rfl
  | cons x r =>
    have : min 1 (x :: r).length = 1 := by simp
    rw [this]
    show List.take ((x :: r).length - 1) r = r
    rw [List.length_cons, Nat.add_sub_cancel, List.take_length]
theorem any_fI (f : List Nat) : (fI f).any tru1 = f.any (· != 0) := by
  unfold fI
  rw [List.any_map]
  congr 1
  funext x
  show ((x : Int) != 0) = (x != 0)
  cases x <;> rfl
theorem sc_fI (f : List Nat) : (fI f).all isSc = true := List.all_eq_true.mpr fun x hx => by
  obtain ⟨a, _, rfl⟩ := List.mem_map.mp hx
  rfl
theorem NLA_fI (f : List Nat) : NLA (fI f) = true := NLA_map fun _ _ => rfl
theorem tail_fI (f : List Nat) : (fI f).tail = fI f.tail := by cases f <;> rfl
theorem cal_none {x : Str} {st : Stmt} {ps : List Str} {k : Nat} {F : DF} (T : Txt K mg x st ps) (h : ∀ as n Q, ¬ F as n Q) : Cal P w K mg base x ps k (spD F) := T.cal fun f fd U =>
  ⟨fun vs H Q E ⟨_, n, as, Q1, _, _, h1, _⟩ => (h as n Q1 h1).elim, fun A o s H args us vs Q E _ _ _ _ _ ⟨_, n, as, Q1, _, _, h1, _⟩ => (h as n Q1 h1).elim⟩
theorem cmulW {i j : Int} (hi : i.natAbs < 2 ^ 400) (hj : j.natAbs < 2 ^ 400) : CMulW i j := wide_mul hi hj (by decide) (by decide) (by decide)
theorem cmulN {i j : Nat} (hi : i ≤ 10 ^ 100) (hj : j ≤ 10 ^ 100) : CMulW (i : Int) (j : Int) := by
  have h : (10 : Nat) ^ 100 < 2 ^ 400 := by decide +kernel
  exact cmulW (by rw [Int.natAbs_natCast]; omega) (by rw [Int.natAbs_natCast]; omega)
end
theorem range_get {m j : Nat} {d : PyData} (h : (rangeD 0 m)[j]? = some d) : j < m ∧ d = .int (j : Int) := by
  unfold rangeD at h
  rw [List.getElem?_map] at h
  obtain ⟨x, hx, rfl⟩ := Option.map_eq_some_iff.mp h
  obtain ⟨h1, h2⟩ := List.getElem?_eq_some_iff.mp hx
  rw [List.length_range] at h1
  rw [List.getElem_range] at h2
  subst h2
  exact ⟨h1, by rw [Int.zero_add]⟩
theorem range_len (m : Nat) : (rangeD 0 m).length = m := by simp [rangeD]
end Law

namespace Law
open PySem PySem.Spec PyProof.Rows L2 Ev
/-! words that commute are powers -/
def rp {α : Type} (l : List α) (n : Nat) : List α := (List.replicate n l).flatten
theorem rp_zero {α : Type} (l : List α) : rp l 0 = [] := rfl
theorem rp_succ {α : Type} (l : List α) (n : Nat) : rp l (n + 1) = l ++ rp l n := by unfold rp; rw [List.replicate_succ, List.flatten_cons]
theorem rp_add {α : Type} (l : List α) (a b : Nat) : rp l (a + b) = rp l a ++ rp l b := by
  induction a with
  | zero => rw [Nat.zero_add]; rfl
  | succ a ih => rw [Nat.succ_add, rp_succ, rp_succ, ih, List.append_assoc]
theorem rp_one {α : Type} (l : List α) : rp l 1 = l := by rw [rp_succ, rp_zero, List.append_nil]
theorem rp_len {α : Type} (l : List α) (n : Nat) : (rp l n).length = n * l.length := by
  induction n with
  | zero => simp [rp]
  | succ n ih => rw [rp_succ, List.length_append, ih, Nat.succ_mul, Nat.add_comm]
theorem comm_pow {α : Type} : ∀ (n : Nat) (x y : List α), x.length + y.length ≤ n → x ++ y = y ++ x → ∃ z i j, x = rp z i ∧ y = rp z j := by
  intro n
  induction n with
  | zero =>
    intro x y h _
    have hx : x = [] := List.length_eq_zero_iff.mp (by omega)
    have hy : y = [] := List.length_eq_zero_iff.mp (by omega)
    exact ⟨[], 0, 0, by rw [hx]; rfl, by rw [hy]; rfl⟩
  | succ n ih =>
    have main : ∀ x y : List α, x.length ≤ y.length → x.length + y.length ≤ n + 1 → x ++ y = y ++ x → ∃ z i j, x = rp z i ∧ y = rp z j := by
      intro x y hle h e
      by_cases hx : x = []
      · exact ⟨y, 0, 1, by rw [hx]; rfl, (rp_one y).symm⟩
      · have e1 : y = x ++ y.drop x.length := by
          have := congrArg (List.take x.length) e
          rw [List.take_left, List.take_append_of_le_length hle] at this
          have h2 := List.take_append_drop x.length y
          rw [← this] at h2
          exact h2.symm
        have hl : 0 < x.length := List.length_pos_iff.mpr hx
        generalize y.drop x.length = r at e1
        subst e1
        have e2 : x ++ r = r ++ x := by
          rw [List.append_assoc] at e
          exact List.append_cancel_left e
        obtain ⟨z, i, j, h1, h2⟩ := ih x r (by rw [List.length_append] at h; omega) e2
        exact ⟨z, i, i + j, h1, by rw [rp_add, ← h1, ← h2]⟩
    intro x y h e
    by_cases hle : x.length ≤ y.length
    · exact main x y hle h e
    · obtain ⟨z, i, j, h1, h2⟩ := main y x (by omega) (by omega) e.symm
      exact ⟨z, j, i, h2, h1⟩
/-- a word is primitive if it is no shorter word some times -/
def Prim {α : Type} (w : List α) : Prop := ∀ z n, w = rp z n → n = 1
theorem prim_rot {α : Type} {w : List α} {p : Nat} (h0 : 0 < p) (h1 : p < w.length) (e : w.drop p ++ w.take p = w) : ∃ z n, 2 ≤ n ∧ w = rp z n := by
  have e2 : w.take p ++ w.drop p = w.drop p ++ w.take p := by rw [e, List.take_append_drop]
  obtain ⟨z, i, j, h2, h3⟩ := comm_pow _ _ _ (Nat.le_refl _) e2
  have l1 : (w.take p).length = p := by rw [List.length_take]; omega
  have l2 : (w.drop p).length = w.length - p := List.length_drop
  rw [h2, rp_len] at l1
  rw [h3, rp_len] at l2
  have hi : 0 < i := Nat.pos_of_ne_zero fun h => by rw [h] at l1; omega
  have hj : 0 < j := Nat.pos_of_ne_zero fun h => by rw [h] at l2; omega
  exact ⟨z, i + j, by omega, by rw [rp_add, ← h2, ← h3, List.take_append_drop]⟩
theorem rot_pow {α : Type} {w z : List α} {n : Nat} (hn : 2 ≤ n) (e : w = rp z n) (hz : z ≠ []) : 1 ≤ z.length ∧ z.length < w.length ∧ w.drop z.length ++ w.take z.length = w := by
  have h1 : 1 ≤ z.length := List.length_pos_iff.mpr hz
  obtain ⟨m, rfl⟩ : ∃ m, n = m + 2 := ⟨n - 2, by omega⟩
  have hl : w.length = (m + 2) * z.length := by rw [e, rp_len]
  have hm : (m + 2) * z.length = m * z.length + 2 * z.length := Nat.add_mul _ _ _
  refine ⟨h1, by omega, ?_⟩
  rw [e, rp_succ, List.drop_left, List.take_left, show rp z (m + 1) ++ z = rp z (m + 1) ++ rp z 1 by rw [rp_one], ← rp_add, ← rp_succ]
/-! ### the first place of a text in another one -/
namespace Occ
open PySem.Builtin PySem.Builtin.Str PySem.StrLaws
theorem keep (s sub : Str) (hi i : Nat) : ∀ (l : List Nat) (f : Nat), (forIn l ((#[i] : Array Nat), f) (occBody s sub hi 1)).run.fst = #[i]
  | [], f => rfl
  | a :: l, f => by
    rw [List.forIn_cons]
    unfold occBody
    rw [if_neg (by simp)]
    exact keep s sub hi i l f
theorem first (s sub : Str) (hi : Nat) : ∀ (l : List Nat) (free : Nat), (∀ i ∈ l, free ≤ i) →
    (forIn l ((#[] : Array Nat), free) (occBody s sub hi 1)).run.fst.toList = (l.find? fun i => decide (i + sub.length ≤ hi) && subAt s sub i).toList
  | [], free, _ => rfl
  | a :: l, free, hf => by
    rw [List.forIn_cons, List.find?_cons]
    unfold occBody
    have ha : free ≤ a := hf a List.mem_cons_self
    by_cases hc : a + sub.length ≤ hi ∧ subAt s sub a = true
    · rw [if_pos ⟨⟨⟨by simp, ha⟩, hc.1⟩, hc.2⟩, hc.2, decide_eq_true hc.1]
      have := keep s sub hi a l (a + sub.length)
      show (forIn l ((#[] : Array Nat).push a, a + sub.length) (occBody s sub hi 1)).run.fst.toList = _
      rw [show (#[] : Array Nat).push a = #[a] from rfl, this]
      rfl
    · rw [if_neg fun h => hc ⟨h.1.2, h.2⟩]
      have : (decide (a + sub.length ≤ hi) && subAt s sub a) = false := by
        cases h2 : subAt s sub a with
        | false => simp
        | true => simp; exact Nat.lt_of_not_le fun h => hc ⟨h, h2⟩
      rw [this]
      exact first s sub hi l free fun i h => hf i (List.mem_cons_of_mem _ h)
theorem find1 (x y : Str) (h : 1 ≤ x.length) : Txt.find3 x y 1 = match (List.range' 1 x.length).find? fun i => decide (i + y.length ≤ x.length) && subAt x y i with | some k => (k : Int) | none => -1 := by
  have e0 : fromIndex x.length 1 = 1 := by
    unfold fromIndex
    first
      | omega
      | (simp; omega)
  unfold Txt.find3
  rw [e0, occ_eq, show x.length + 1 - 1 = x.length by omega, first _ _ _ _ _ fun i hi => (List.mem_range'.mp hi).elim fun k hk => by omega]
  cases (List.range' 1 x.length).find? fun i => decide (i + y.length ≤ x.length) && subAt x y i <;> rfl
theorem subAt_list (x y : Str) (i : Nat) : subAt x y i = true ↔ (x.cps.toList.drop i).take y.length = y.cps.toList := by
  unfold subAt
  rw [beq_iff_eq, ← Array.toList_inj, Array.toList_extract, List.extract_eq_drop_take]
  rw [show i + y.length - i = y.length by omega]
end Occ
end Law

namespace Law
open PySem PySem.Spec PyProof.Rows L2 Ev
/-! ### words, forms, parts: what is drawn -/
theorem range_draw {a b i n : Nat} {ss : List S} {Q : List PyData → Nat → Prop} (hs : ss[i]? = some .dk) (ha : a ≤ 1000) (hb : 1 ≤ b) (hb2 : b ≤ 1000) (hn : n < 1000000000) (h : ∀ m : Nat, m < b → Q (rangeD 0 (a + m)) (n + 1)) :
    diR1 (dCons (dArg (dOp qAdd (dC (.int (a : Int))) (dFn F_draw (dCons (dArgV i) (dCons (dArg (dC (.int (b : Int)))) dNil))))) dNil) ss n Q := by
  simp only [diR1, dCons, dArg, dOp, dC, dFn, dArgV, dNil, hs]
  refine use_draw (by omega) (by omega) hn fun m hm => ?_
  refine ⟨a + m, rfl, by omega, by omega, ?_⟩
  rw [show ((a : Int) + (m : Int)).toNat = a + m by omega]
  exact h m (by omega)
def isWd (z : Str) : Prop := 1 ≤ z.length ∧ z.length ≤ 4 ∧ abc z
section
variable {P : Program} {w : World} {K : PySem.W.Frag} {mg : Str → Option Value} {base : Heap}
def F_word : DF := fun as n Q => as = [.dk] ∧ n < 100000000 ∧ ∀ z : Str, isWd z → Q (.str z) (n + 1)
theorem c_word (T : Txt K mg "_law_word" s__law_word P__law_word) (B : Blt mg) (C__law_one : Cal P w K mg base "_law_one" P__law_one 2 (spD F_one)) : Cal P w K mg base "_law_word" P__law_word 3 (spD F_word) := by
  refine T.def sc__law_word (fun as n Q h => by obtain ⟨rfl, _⟩ := h; rfl) (fun f cdv A o s H E hr hg => ⟨_, (b_cons (s_setL (i := 1) sc__law_word.nd rfl (Or.inl rfl) (f_lst (a_cons (g_ l_str) (a_cons (g_ l_str) (a_cons (g_ l_str) (a_cons (g_ l_str) (a_cons (g_ l_str) (a_cons (g_ l_str) (a_cons (g_ l_str) (a_cons (g_ l_str) (a_cons (g_ l_str) (a_cons (g_ l_str) (a_cons (g_ l_str) (a_cons (g_ l_str) (a_cons (g_ l_str) a_nil)))))))))))))))
  (b_one (s_ret (l_cal C__law_one (hr.mono (by omega)) hg (by rfl) (a_cons (gv 0) (a_cons (gv 1) a_nil))))))⟩) (fun as n Q h => ?_)
  obtain ⟨rfl, hn, hq⟩ := h
  simp (config := { maxSteps := 1000000 }) only [dIsi, Kd.of, dSetA, dAsgTA, dAppA, dExt, dgLst, dParLL, qSum2_l, qSum2_t, unS_d, unS_own, unS_dk, unS_un, qLe2_i, qLe2_s, qAll_l, dExt2, dPar3, dFind3, dRevS, diEnum, dSeq, dSet, dSetL, dRet, dRetO, dRetL, dIfS, dNext, dApp, dSetIx, dVar, dC, dOp, dFn, dFnL, dCons, dNil, dArg, dArgV, onD, datas, dTup, dLst, dLstL, dOfL, dAddL, dMulL, dIf, dTest, dTru, dNot, dAnd, dOr, dNotV, dAndV, dOrV, dSl, dPart, dNoPart, dCall, dMt, qAdd_i, qAdd_s, qAdd_t, qAdd_l, qSub_i, qDiv_i, qMod_i, qPow_i, qMul_i, qMul_s, qMul_t, qMul_l, qLt_i, qLe_i, qGt_i, qGe_i, qIx_l, qIx_t, qIx_s, qSl_l, qSl_t, qSl_s, qLen_l, qLen_t, qLen_s, qInt_i, qInt_b, qMin_i, qMax_i, qTup_l, qTup_t, qLst_l, qLst_t, qTru_n, qTru_b, qTru_i, qTru_s, qTru_l, qTru_t, qSum_l, qAny_l, qAny_t, qJoin_l, qCount_s, qEq_e, qNe_e, qRepr_e, dAsgT, dNeg, qNeg_i, dgTup, dgCons, dgName, dgNil, dPar, diR1, diOwn, diSeq, diL, diZip, diZipM, diVar, dParL, startS, toS, List.map_cons, List.map_nil, List.length_cons, List.length_nil, List.replicate, List.cons_append, List.nil_append, List.append_nil, List.getElem?_cons_zero, List.getElem?_cons_succ, List.set_cons_zero, List.set_cons_succ, Nat.reduceSub, Nat.reduceAdd, wipeS, canD, if_true, if_false, ite_true, ite_false, Bool.false_eq_true, PyData.bool.injEq, exists_eq_left', exists_eq_left, shp_i, shp_s, shp_b, shp_n, shp_e, shp_z, eqv_tt, eqv_lt, eqv_i, true_and, ix0, ix1, ix2, Option.some.injEq, PyData.tuple.injEq, PyData.list.injEq, PyData.int.injEq, PyData.str.injEq, S.own.injEq]
  refine ⟨sz6 (by decide), by decide, rfl, use_one (by decide) (by decide) (by omega) fun x hx => ?_⟩
  simp only [List.mem_cons, List.not_mem_nil, or_false] at hx
  rcases hx with rfl | rfl | rfl | rfl | rfl | rfl | rfl | rfl | rfl | rfl | rfl | rfl | rfl <;> exact hq _ ⟨by decide, by decide, by unfold abc; decide⟩
theorem sum_cast (g : List Nat) : (g.map fun (x : Nat) => (x : Int)).sum = ((g.sum : Nat) : Int) := by
  induction g with
  | nil => rfl
  | cons a r ih => rw [List.map_cons, List.sum_cons, ih, List.sum_cons, Int.natCast_add]
theorem any_sum (g : List Nat) : g.any (· != 0) = decide (g.sum ≠ 0) := by
  induction g with
  | nil => rfl
  | cons a r ih =>
    rw [List.any_cons, ih, List.sum_cons]
    cases a with
    | zero => simp
    | succ a => simp
def F_form : DF := fun as n Q => ∃ k o : Nat, as = [.dk, .d (.int k), .d (.int o)] ∧ (o = 0 ∨ o = 1 ∧ 1 ≤ k) ∧ k ≤ 3 ∧ n < 100000000 ∧ ∀ (f : List Nat) n', f.length = k + 1 → (∀ x ∈ f, x ≤ 999) → f.headD 0 ≤ 11 → isOpen f = decide (o = 1) → n ≤ n' → n' ≤ n + 5 → Q (fmD f) n'
theorem c_form (T : Txt K mg "_law_form" s__law_form P__law_form) (B : Blt mg) (C__law_draw : Cal P w K mg base "_law_draw" P__law_draw 1 (spD F_draw)) (C__law_one : Cal P w K mg base "_law_one" P__law_one 2 (spD F_one)) : Cal P w K mg base "_law_form" P__law_form 3 (spD F_form) := by
  refine T.def sc__law_form (fun as n Q h => by obtain ⟨k, o, rfl, _⟩ := h; rfl) (fun f cdv A o s H E hr hg => ⟨_, (b_cons (s_setLc (i := 3) (own := [("_law_number", 4)]) rfl sc__law_form.nd rfl rfl (ic_ (i_range1 (by rfl) B.range (a_cons (gv 1) a_nil))) (blkOk_by (own := [("_law_number", 4)]) (N := N__law_form) (sc := defScope s__law_form) (by decide +kernel)) (fun _ _ _ _ _ => (g_name (i := 4) sc__law_form.nd rfl (Or.inl rfl))) (fun _ _ _ _ _ => ts_nil) (fun _ _ _ _ _ => (k_mul (K := K) (by rfl) (l_cal C__law_one (hr.mono (by omega)) hg (by rfl) (a_cons (gv 0) (a_cons (g_ (l_lst (a_cons (g_ l_int) (a_cons (g_ l_int) (a_cons (g_ l_int) (a_cons (g_ l_int) (a_cons (g_ l_int) (a_cons (g_ l_int) (a_cons (g_ l_int) (a_cons (g_ l_int) (a_cons (g_ l_int) a_nil))))))))))) a_nil))) (lv 2))) (sw_true rfl rfl rfl (by decide +kernel)))
  (b_cons (s_if (lw_and (lt_cmp (k_eq (K := K) (by rfl) hr.units) (lv 2) l_int (nomark _)) (lw_and1 (lt_cmp (k_eq (K := K) (by rfl) hr.units) (l_callB (kb_sum2 (K := K) (by rfl) rfl) (by rfl) B.sum (by decide +kernel) (a_cons (gv 3) a_nil)) l_int (nomark _)))).t (b_one (s_setIx (lv 3) (l_cal C__law_draw (hr.mono (by omega)) hg (by rfl) (a_cons (gv 0) (a_cons (gv 1) a_nil))) l_int)) b_nil)
  (b_one (s_ret (l_callT (kb_tuple (K := K) (by rfl)) (by rfl) B.tuple (by decide +kernel) (a_cons (g_ (k_add (K := K) (by rfl) (l_lst (a_cons (g_ (l_cal C__law_one (hr.mono (by omega)) hg (by rfl) (a_cons (gv 0) (a_cons (g_ (l_lst (a_cons (g_ l_int) (a_cons (g_ l_int) (a_cons (g_ l_int) (a_cons (g_ l_int) (a_cons (g_ l_int) (a_cons (g_ l_int) (a_cons (g_ l_int) (a_cons (g_ l_int) (a_cons (g_ l_int) a_nil))))))))))) a_nil)))) a_nil)) (lv 3))) a_nil))))))⟩) (fun as n Q h => ?_)
  obtain ⟨k, o, rfl, ho, hk, hn, hq⟩ := h
  simp (config := { maxSteps := 1000000 }) only [dIsi, Kd.of, dSetA, dAsgTA, dAppA, dExt, dgLst, dParLL, qSum2_l, qSum2_t, unS_d, unS_own, unS_dk, unS_un, qLe2_i, qLe2_s, qAll_l, dExt2, dPar3, dFind3, dRevS, diEnum, dSeq, dSet, dSetL, dRet, dRetO, dRetL, dIfS, dNext, dApp, dSetIx, dVar, dC, dOp, dFn, dFnL, dCons, dNil, dArg, dArgV, onD, datas, dTup, dLst, dLstL, dOfL, dAddL, dMulL, dIf, dTest, dTru, dNot, dAnd, dOr, dNotV, dAndV, dOrV, dSl, dPart, dNoPart, dCall, dMt, qAdd_i, qAdd_s, qAdd_t, qAdd_l, qSub_i, qDiv_i, qMod_i, qPow_i, qMul_i, qMul_s, qMul_t, qMul_l, qLt_i, qLe_i, qGt_i, qGe_i, qIx_l, qIx_t, qIx_s, qSl_l, qSl_t, qSl_s, qLen_l, qLen_t, qLen_s, qInt_i, qInt_b, qMin_i, qMax_i, qTup_l, qTup_t, qLst_l, qLst_t, qTru_n, qTru_b, qTru_i, qTru_s, qTru_l, qTru_t, qSum_l, qAny_l, qAny_t, qJoin_l, qCount_s, qEq_e, qNe_e, qRepr_e, dAsgT, dNeg, qNeg_i, dgTup, dgCons, dgName, dgNil, dPar, diR1, diOwn, diSeq, diL, diZip, diZipM, diVar, dParL, startS, toS, List.map_cons, List.map_nil, List.length_cons, List.length_nil, List.replicate, List.cons_append, List.nil_append, List.append_nil, List.getElem?_cons_zero, List.getElem?_cons_succ, List.set_cons_zero, List.set_cons_succ, Nat.reduceSub, Nat.reduceAdd, wipeS, canD, if_true, if_false, ite_true, ite_false, Bool.false_eq_true, PyData.bool.injEq, exists_eq_left', exists_eq_left, shp_i, shp_s, shp_b, shp_n, shp_e, shp_z, eqv_tt, eqv_lt, eqv_i, true_and, ix0, ix1, ix2, Option.some.injEq, PyData.tuple.injEq, PyData.list.injEq, PyData.int.injEq, PyData.str.injEq, S.own.injEq]
  refine lc_draw (fun xs n1 => xs.length = k ∧ n1 = n) 1 (fun y => ∃ b : Nat, y = .int b ∧ b ≤ 999 ∧ (o = 0 → b = 0)) rfl (fun R hR => ?_) (fun y ⟨b, e, _⟩ => by rw [e]; rfl) (fun xs n1 ⟨g1, g2⟩ => ⟨sz6 (by omega), fun d hd n' e1 e2 R hR => ?_, fun acc n' a1 a2 a3 a4 => ?_⟩)
  · simp (config := { maxSteps := 1000000 }) only [dIsi, Kd.of, dSetA, dAsgTA, dAppA, dExt, dgLst, dParLL, qSum2_l, qSum2_t, unS_d, unS_own, unS_dk, unS_un, qLe2_i, qLe2_s, qAll_l, dExt2, dPar3, dFind3, dRevS, diEnum, dSeq, dSet, dSetL, dRet, dRetO, dRetL, dIfS, dNext, dApp, dSetIx, dVar, dC, dOp, dFn, dFnL, dCons, dNil, dArg, dArgV, onD, datas, dTup, dLst, dLstL, dOfL, dAddL, dMulL, dIf, dTest, dTru, dNot, dAnd, dOr, dNotV, dAndV, dOrV, dSl, dPart, dNoPart, dCall, dMt, qAdd_i, qAdd_s, qAdd_t, qAdd_l, qSub_i, qDiv_i, qMod_i, qPow_i, qMul_i, qMul_s, qMul_t, qMul_l, qLt_i, qLe_i, qGt_i, qGe_i, qIx_l, qIx_t, qIx_s, qSl_l, qSl_t, qSl_s, qLen_l, qLen_t, qLen_s, qInt_i, qInt_b, qMin_i, qMax_i, qTup_l, qTup_t, qLst_l, qLst_t, qTru_n, qTru_b, qTru_i, qTru_s, qTru_l, qTru_t, qSum_l, qAny_l, qAny_t, qJoin_l, qCount_s, qEq_e, qNe_e, qRepr_e, dAsgT, dNeg, qNeg_i, dgTup, dgCons, dgName, dgNil, dPar, diR1, diOwn, diSeq, diL, diZip, diZipM, diVar, dParL, startS, toS, List.map_cons, List.map_nil, List.length_cons, List.length_nil, List.replicate, List.cons_append, List.nil_append, List.append_nil, List.getElem?_cons_zero, List.getElem?_cons_succ, List.set_cons_zero, List.set_cons_succ, Nat.reduceSub, Nat.reduceAdd, wipeS, canD, if_true, if_false, ite_true, ite_false, Bool.false_eq_true, PyData.bool.injEq, exists_eq_left', exists_eq_left, shp_i, shp_s, shp_b, shp_n, shp_e, shp_z, eqv_tt, eqv_lt, eqv_i, true_and, ix0, ix1, ix2, Option.some.injEq, PyData.tuple.injEq, PyData.list.injEq, PyData.int.injEq, PyData.str.injEq, S.own.injEq]
    exact ⟨(k : Int), rfl, by omega, by omega, hR _ _ ⟨by simp [rangeD], rfl⟩⟩
  · simp (config := { maxSteps := 1000000 }) only [dIsi, Kd.of, dSetA, dAsgTA, dAppA, dExt, dgLst, dParLL, qSum2_l, qSum2_t, unS_d, unS_own, unS_dk, unS_un, qLe2_i, qLe2_s, qAll_l, dExt2, dPar3, dFind3, dRevS, diEnum, dSeq, dSet, dSetL, dRet, dRetO, dRetL, dIfS, dNext, dApp, dSetIx, dVar, dC, dOp, dFn, dFnL, dCons, dNil, dArg, dArgV, onD, datas, dTup, dLst, dLstL, dOfL, dAddL, dMulL, dIf, dTest, dTru, dNot, dAnd, dOr, dNotV, dAndV, dOrV, dSl, dPart, dNoPart, dCall, dMt, qAdd_i, qAdd_s, qAdd_t, qAdd_l, qSub_i, qDiv_i, qMod_i, qPow_i, qMul_i, qMul_s, qMul_t, qMul_l, qLt_i, qLe_i, qGt_i, qGe_i, qIx_l, qIx_t, qIx_s, qSl_l, qSl_t, qSl_s, qLen_l, qLen_t, qLen_s, qInt_i, qInt_b, qMin_i, qMax_i, qTup_l, qTup_t, qLst_l, qLst_t, qTru_n, qTru_b, qTru_i, qTru_s, qTru_l, qTru_t, qSum_l, qAny_l, qAny_t, qJoin_l, qCount_s, qEq_e, qNe_e, qRepr_e, dAsgT, dNeg, qNeg_i, dgTup, dgCons, dgName, dgNil, dPar, diR1, diOwn, diSeq, diL, diZip, diZipM, diVar, dParL, startS, toS, List.map_cons, List.map_nil, List.length_cons, List.length_nil, List.replicate, List.cons_append, List.nil_append, List.append_nil, List.getElem?_cons_zero, List.getElem?_cons_succ, List.set_cons_zero, List.set_cons_succ, Nat.reduceSub, Nat.reduceAdd, wipeS, canD, if_true, if_false, ite_true, ite_false, Bool.false_eq_true, PyData.bool.injEq, exists_eq_left', exists_eq_left, shp_i, shp_s, shp_b, shp_n, shp_e, shp_z, eqv_tt, eqv_lt, eqv_i, true_and, ix0, ix1, ix2, Option.some.injEq, PyData.tuple.injEq, PyData.list.injEq, PyData.int.injEq, PyData.str.injEq, S.own.injEq]
    refine ⟨sz6 (by decide), use_one (by decide) (by decide) (by omega) fun y hy => ?_⟩
    obtain ⟨b, rfl, hb⟩ : ∃ b : Nat, y = .int b ∧ b ≤ 999 := by
      simp only [List.mem_cons, List.not_mem_nil, or_false] at hy
      rcases hy with rfl | rfl | rfl | rfl | rfl | rfl | rfl | rfl | rfl
      · exact ⟨0, rfl, by decide⟩
      · exact ⟨1, rfl, by decide⟩
      · exact ⟨1, rfl, by decide⟩
      · exact ⟨1, rfl, by decide⟩
      · exact ⟨2, rfl, by decide⟩
      · exact ⟨3, rfl, by decide⟩
      · exact ⟨10, rfl, by decide⟩
      · exact ⟨11, rfl, by decide⟩
      · exact ⟨999, rfl, by decide⟩
    have ho1 : o ≤ 1 := by omega
    rw [qMul_i]
    refine ⟨cmulN (Nat.le_trans hb (by decide)) (Nat.le_trans ho1 (by decide)), hR _ _ ⟨b * o, by rw [Int.natCast_mul], ?_, fun h => by rw [h]; rfl⟩ (by omega) (by omega)⟩
    exact Nat.le_trans (Nat.mul_le_mul hb ho1) (by decide)
  obtain ⟨g, rfl, hgb⟩ := nats_of (b := 999) fun y hy => let ⟨b, e, h, _⟩ := a2 y hy; ⟨b, e, h⟩
  have hgl : g.length = k := by rw [List.length_map] at a1; omega
  have hg0 : o = 0 → g.any (· != 0) = false := fun h => by
    rw [List.any_eq_false]
    intro x hx
    obtain ⟨b, e, _, h0⟩ := a2 (.int x) (List.mem_map.mpr ⟨x, hx, rfl⟩)
    have : (x : Int) = (b : Int) := PyData.int.inj e
    have := h0 h
    simp; omega
  have first : ∀ (g : List Nat) (n2 : Nat), g.length = k → (∀ x ∈ g, x ≤ 999) → g.any (· != 0) = decide (o = 1) → n ≤ n2 → n2 ≤ n + 4 → F_one [W.dk, W.d (PyData.list [PyData.int 0, PyData.int 0, PyData.int 0, PyData.int 1, PyData.int 1, PyData.int 2, PyData.int 3, PyData.int 10, PyData.int 11])] n2 fun d n' => 1 ≤ sizeLine ∧ 1 + (fI g).length ≤ sizeLine ∧ Q (PyData.tuple (d :: fI g)) n' := fun g n2 h1 h2 h3 h4 h5 => by
    refine use_one (by decide) (by decide) (by omega) fun x hx => ?_
    obtain ⟨a, rfl, ha⟩ : ∃ a : Nat, x = .int a ∧ a ≤ 11 := by
      simp only [List.mem_cons, List.not_mem_nil, or_false] at hx
      rcases hx with rfl | rfl | rfl | rfl | rfl | rfl | rfl | rfl | rfl
      · exact ⟨0, rfl, by decide⟩
      · exact ⟨0, rfl, by decide⟩
      · exact ⟨0, rfl, by decide⟩
      · exact ⟨1, rfl, by decide⟩
      · exact ⟨1, rfl, by decide⟩
      · exact ⟨2, rfl, by decide⟩
      · exact ⟨3, rfl, by decide⟩
      · exact ⟨10, rfl, by decide⟩
      · exact ⟨11, rfl, by decide⟩
    refine ⟨sz6 (by decide), sz6 (by rw [List.length_map]; omega), ?_⟩
    exact hq (a :: g) (n2 + 1) (by simp [h1]) (fun x hx => (List.mem_cons.mp hx).elim (fun e => by rw [e]; omega) (h2 x)) ha h3 (by omega) (by omega)
  refine ⟨by decide, NLA_fI g, ?_⟩
  rcases ho with ho | ⟨ho, hk1⟩
  · subst ho
    rw [if_neg (by decide)]
    exact ⟨sz6 (by decide), first g n' hgl hgb (hg0 rfl) (by omega) (by omega)⟩
  · subst ho
    rw [if_pos (by decide)]
    refine ⟨g.map fun (x : Nat) => (x : Int), by rw [List.map_map]; rfl, ?_⟩
    rw [sum_cast]
    by_cases h0 : g.sum = 0
    · rw [if_pos (by rw [h0]; rfl)]
      refine use_draw (by omega) (by omega) (by omega) fun r hr => ⟨r, r, rfl, ?_, rfl, sz6 (by decide), ?_⟩
      · exact Evl.ixN_nat (by rw [List.length_map]; omega)
      · have e : (fI g).set r (.int 1) = fI (g.set r 1) := by unfold fI; rw [List.map_set]; rfl
        rw [e]
        refine first _ _ (by rw [List.length_set]; exact hgl) (fun x hx => ?_) ?_ (by omega) (by omega)
        · rcases List.mem_or_eq_of_mem_set hx with h | h
          · exact hgb x h
          · omega
        · show (g.set r 1).any (· != 0) = true
          exact List.any_eq_true.mpr ⟨1, List.mem_set (l := g) (i := r) (by omega) _, by decide⟩
    · rw [if_neg (by rw [decide_eq_true_eq]; omega)]
      exact ⟨sz6 (by decide), first g n' hgl hgb (by rw [any_sum]; simp [h0]) (by omega) (by omega)⟩
end
end Law

namespace Law
open PySem PySem.Spec PyProof.Rows L2 Ev
/-! ### parts of a drawn program -/
mutual
def Fine (k : Nat) (closed : Bool) : Part → Prop
  | .text w => w.length ≤ 4 ∧ abc w
  | .loop f ps => f.length = k + 1 ∧ (∀ x ∈ f, x ≤ 999) ∧ f.headD 0 ≤ 11 ∧ (isOpen f = true → closed = false) ∧ ps.length ≤ 3 ∧ FineAll k (closed || isOpen f) ps
def FineAll (k : Nat) (closed : Bool) : List Part → Prop
  | [] => True
  | p :: r => Fine k closed p ∧ FineAll k closed r
end
theorem FineAll_iff {k : Nat} {closed : Bool} : ∀ {ps : List Part}, FineAll k closed ps ↔ ∀ p ∈ ps, Fine k closed p
  | [] => by simp [FineAll]
  | p :: r => by simp [FineAll, FineAll_iff (ps := r)]
section
variable {P : Program} {w : World} {K : PySem.W.Frag} {mg : Str → Option Value} {base : Heap}
def costP (d : Nat) : Nat := 20 * 4 ^ d
theorem costP_succ (d : Nat) : costP (d + 1) = 4 * costP d := by unfold costP; rw [Nat.pow_succ]; omega
theorem costP_ge (d : Nat) : 20 ≤ costP d := by unfold costP; have := Nat.one_le_two_pow (n := d); have : 1 ≤ 4 ^ d := Nat.one_le_pow _ _ (by decide); omega
theorem costP_3 {d : Nat} (h : d ≤ 3) : costP d ≤ 1280 := by
  unfold costP
  exact Nat.le_trans (Nat.mul_le_mul_left _ (Nat.pow_le_pow_right (by decide) h)) (by decide)
def F_parts (D : Nat) : DF := fun as n Q => ∃ (k d : Nat) (closed : Bool), as = [.dk, .d (.int k), .d (.int d), .d (.bool closed)] ∧ k ≤ 3 ∧ d < D ∧ d ≤ 3 ∧ n + costP d < 10000000 ∧ ∀ (ps : List Part) n', FineAll k closed ps → ps.length ≤ 3 → depAll ps ≤ d → n ≤ n' → n' ≤ n + costP d → Q (.tuple (dataAll ps)) n'
theorem c_parts_step {D : Nat} (T : Txt K mg "_law_parts" s__law_parts P__law_parts) (B : Blt mg) (C__law_draw : Cal P w K mg base "_law_draw" P__law_draw 1 (spD F_draw)) (C__law_one : Cal P w K mg base "_law_one" P__law_one 2 (spD F_one)) (C__law_word : Cal P w K mg base "_law_word" P__law_word 3 (spD F_word)) (C__law_form : Cal P w K mg base "_law_form" P__law_form 3 (spD F_form))
    (C__law_parts : Cal P w K mg base "_law_parts" P__law_parts (3 + D) (spD (F_parts D))) : Cal P w K mg base "_law_parts" P__law_parts (3 + D + 1) (spD (F_parts (D + 1))) := by
  refine T.def sc__law_parts (fun as n Q h => by obtain ⟨k, d, cl, rfl, _⟩ := h; rfl) (fun f cdv A o s H E hr hg => ⟨_, (b_cons (s_setL (i := 4) sc__law_parts.nd rfl (Or.inl rfl) (f_lst a_nil))
  (b_cons (s_for PassesOwn.never rfl (i_range1 (by rfl) B.range (a_cons (g_ (k_add (K := K) (by rfl) l_int (l_cal C__law_draw (hr.mono (by omega)) hg (by rfl) (a_cons (gv 0) (a_cons (g_ l_int) a_nil))))) a_nil)) (g_name (i := 5) sc__law_parts.nd rfl (Or.inl rfl)) (b_cons (s_set (i := 6) sc__law_parts.nd rfl (Or.inl rfl) (l_cal C__law_draw (hr.mono (by omega)) hg (by rfl) (a_cons (gv 0) (a_cons (g_ l_int) a_nil))))
  (b_one (s_if (lw_or (lt_cmp c_lt (lv 6) l_int (nomark _)) (lw_or1 (lt_cmp (k_eq (K := K) (by rfl) hr.units) (lv 2) l_int (nomark _)))).t (b_one (s_app (i := 4) (lv 4) (l_tup (a_cons (g_ l_str) (a_cons (g_ (l_cal C__law_one (hr.mono (by omega)) hg (by rfl) (a_cons (gv 0) (a_cons (g_ (l_lst (a_cons (g_ l_str) (a_cons (g_ (l_cal C__law_word (hr.mono (by omega)) hg (by rfl) (a_cons (gv 0) a_nil))) (a_cons (g_ (l_cal C__law_word (hr.mono (by omega)) hg (by rfl) (a_cons (gv 0) a_nil))) a_nil))))) a_nil)))) a_nil))))) (b_one (s_if (lw_and (lt_cmp c_lt (lv 6) l_int (nomark _)) (lw_and (lt_cmp c_gt (lv 1) l_int (nomark _)) (lw_and1 (lt_not (k_tru (K := K) (by rfl) (lv 3)))))).t (b_one (s_app (i := 4) (lv 4) (l_tup (a_cons (g_ l_str) (a_cons (g_ (l_cal C__law_form (hr.mono (by omega)) hg (by rfl) (a_cons (gv 0) (a_cons (gv 1) (a_cons (g_ l_int) a_nil))))) (a_cons (g_ (l_cal C__law_parts (hr.mono (by omega)) hg (by rfl) (a_cons (gv 0) (a_cons (gv 1) (a_cons (g_ (l_sub (lv 2) l_int)) (a_cons (g_ l_bl) a_nil)))))) a_nil)))))) (b_one (s_app (i := 4) (lv 4) (l_tup (a_cons (g_ l_str) (a_cons (g_ (l_cal C__law_form (hr.mono (by omega)) hg (by rfl) (a_cons (gv 0) (a_cons (gv 1) (a_cons (g_ l_int) a_nil))))) (a_cons (g_ (l_cal C__law_parts (hr.mono (by omega)) hg (by rfl) (a_cons (gv 0) (a_cons (gv 1) (a_cons (g_ (l_sub (lv 2) l_int)) (a_cons (gv 3) a_nil)))))) a_nil))))))))))))
  (b_one (s_ret (l_callT (kb_tuple (K := K) (by rfl)) (by rfl) B.tuple (by decide +kernel) (a_cons (gv 4) a_nil))))))⟩) (fun as n Q h => ?_)
  obtain ⟨k, d, cl, rfl, hk, hD, hd3, hn, hq⟩ := h
  simp only [dSeq, dSetL]
  simp (config := { maxSteps := 1000000 }) only [dIsi, Kd.of, dSetA, dAsgTA, dAppA, dExt, dgLst, dParLL, qSum2_l, qSum2_t, unS_d, unS_own, unS_dk, unS_un, qLe2_i, qLe2_s, qAll_l, dExt2, dPar3, dFind3, dRevS, diEnum, dSeq, dSet, dSetL, dRet, dRetO, dRetL, dIfS, dNext, dApp, dSetIx, dVar, dC, dOp, dFn, dFnL, dCons, dNil, dArg, dArgV, onD, datas, dTup, dLst, dLstL, dOfL, dAddL, dMulL, dIf, dTest, dTru, dNot, dAnd, dOr, dNotV, dAndV, dOrV, dSl, dPart, dNoPart, dCall, dMt, qAdd_i, qAdd_s, qAdd_t, qAdd_l, qSub_i, qDiv_i, qMod_i, qPow_i, qMul_i, qMul_s, qMul_t, qMul_l, qLt_i, qLe_i, qGt_i, qGe_i, qIx_l, qIx_t, qIx_s, qSl_l, qSl_t, qSl_s, qLen_l, qLen_t, qLen_s, qInt_i, qInt_b, qMin_i, qMax_i, qTup_l, qTup_t, qLst_l, qLst_t, qTru_n, qTru_b, qTru_i, qTru_s, qTru_l, qTru_t, qSum_l, qAny_l, qAny_t, qJoin_l, qCount_s, qEq_e, qNe_e, qRepr_e, dAsgT, dNeg, qNeg_i, dgTup, dgCons, dgName, dgNil, dPar, diR1, diOwn, diSeq, diL, diZip, diZipM, diVar, dParL, startS, toS, List.map_cons, List.map_nil, List.length_cons, List.length_nil, List.replicate, List.cons_append, List.nil_append, List.append_nil, List.getElem?_cons_zero, List.getElem?_cons_succ, List.set_cons_zero, List.set_cons_succ, Nat.reduceSub, Nat.reduceAdd, wipeS, canD, if_true, if_false, ite_true, ite_false, Bool.false_eq_true, PyData.bool.injEq, exists_eq_left', exists_eq_left, shp_i, shp_s, shp_b, shp_n, shp_e, shp_z, eqv_tt, eqv_lt, eqv_i, true_and, ix0, ix1, ix2, Option.some.injEq, PyData.tuple.injEq, PyData.list.injEq, PyData.int.injEq, PyData.str.injEq, S.own.injEq]
  have hc := costP_ge d
  refine ⟨sz6 (by decide), by decide, rfl, ?_⟩
  refine range_draw (a := 1) (b := 3) rfl (by decide) (by decide) (by decide) (by omega) fun m hm => ?_
  refine ⟨fun i ss n' => ∃ (ps : List Part) (s5 s6 : S), isOwn s5 = false ∧ isOwn s6 = false ∧ FineAll k cl ps ∧ ps.length = i ∧ depAll ps ≤ d ∧ ss = [.dk, .d (.int k), .d (.int d), .d (.bool cl), .own (dataAll ps), s5, s6] ∧ n ≤ n' ∧ n' ≤ n + 1 + i * (6 + (if d = 0 then 0 else costP (d - 1))), ?_, fun i x ss n' hx ⟨ps, s5, s6, o5, o6, hf, hl, hdp, e, b1, b2⟩ => ?_, fun ss n' ⟨ps, s5, s6, o5, o6, hf, hl, hdp, e, b1, b2⟩ => ?_⟩
  · exact ⟨[], _, _, rfl, rfl, trivial, rfl, Nat.zero_le _, rfl, by omega, by omega⟩
  · subst e
    have hi : i < 3 := by
      have z := (List.getElem?_eq_some_iff.mp hx).1
      have : (rangeD 0 (1 + m)).length = 1 + m := by simp [rangeD]
      omega
    have hcp : (if d = 0 then 0 else costP (d - 1)) ≤ 1280 := by
      split
      · omega
      · exact costP_3 (by omega)
    generalize hG : (if d = 0 then 0 else costP (d - 1)) = G at *
    have hiG : (i + 1) * (6 + G) = i * (6 + G) + (6 + G) := Nat.succ_mul _ _
    have hi2 : i * (6 + G) ≤ 2 * (6 + G) := Nat.mul_le_mul_right _ (by omega)
    have hcG : 19 + 3 * G ≤ costP d := by
      rw [← hG]
      split
      · omega
      · rename_i h0
        obtain ⟨e, rfl⟩ : ∃ e, d = e + 1 := ⟨d - 1, by omega⟩
        rw [Nat.add_sub_cancel]
        have h1 := costP_succ e
        have h2 := costP_ge e
        omega
    have more : ∀ (pt : Part) (n2 : Nat) (y : S), Fine k cl pt → pt.dep ≤ d → isOwn y = false → n' ≤ n2 → n2 ≤ n' + 6 + G →
        (dataAll ps).length < sizeLine ∧ NL pt.data = true ∧ ∃ ps' s5' s6', isOwn s5' = false ∧ isOwn s6' = false ∧ FineAll k cl ps' ∧ ps'.length = i + 1 ∧ depAll ps' ≤ d ∧
          ([S.dk, S.d (PyData.int ↑k), S.d (PyData.int ↑d), S.d (PyData.bool cl), S.own (dataAll ps ++ [pt.data]), S.d x, y] : List S) = [S.dk, S.d (PyData.int ↑k), S.d (PyData.int ↑d), S.d (PyData.bool cl), S.own (dataAll ps'), s5', s6'] ∧ n ≤ n2 ∧ n2 ≤ n + 1 + (i + 1) * (6 + G) := fun pt n2 y h1 h2 h3 h4 h5 => by
      refine ⟨?_, NL_data pt, ps ++ [pt], S.d x, y, rfl, h3, ?_, by simp [hl], ?_, ?_, by omega, by omega⟩
      · rw [dataAll_map, List.length_map, hl]
        exact Nat.lt_of_lt_of_le hi (by decide)
      · exact FineAll_iff.mpr fun p hp => (List.mem_append.mp hp).elim (FineAll_iff.mp hf p) fun hp => by rw [List.mem_singleton.mp hp]; exact h1
      · exact depAll_le.mpr fun p hp => (List.mem_append.mp hp).elim (depAll_le.mp hdp p) fun hp => by rw [List.mem_singleton.mp hp]; exact h2
      · rw [dataAll_map (ps ++ [pt]), List.map_append, ← dataAll_map]
        rfl
    simp only [dgName, dSeq, dSet, List.set_cons_succ, List.set_cons_zero]
    simp (config := { maxSteps := 1000000 }) only [dIsi, Kd.of, dSetA, dAsgTA, dAppA, dExt, dgLst, dParLL, qSum2_l, qSum2_t, unS_d, unS_own, unS_dk, unS_un, qLe2_i, qLe2_s, qAll_l, dExt2, dPar3, dFind3, dRevS, diEnum, dSeq, dSet, dSetL, dRet, dRetO, dRetL, dIfS, dNext, dApp, dSetIx, dVar, dC, dOp, dFn, dFnL, dCons, dNil, dArg, dArgV, onD, datas, dTup, dLst, dLstL, dOfL, dAddL, dMulL, dIf, dTest, dTru, dNot, dAnd, dOr, dNotV, dAndV, dOrV, dSl, dPart, dNoPart, dCall, dMt, qAdd_i, qAdd_s, qAdd_t, qAdd_l, qSub_i, qDiv_i, qMod_i, qPow_i, qMul_i, qMul_s, qMul_t, qMul_l, qLt_i, qLe_i, qGt_i, qGe_i, qIx_l, qIx_t, qIx_s, qSl_l, qSl_t, qSl_s, qLen_l, qLen_t, qLen_s, qInt_i, qInt_b, qMin_i, qMax_i, qTup_l, qTup_t, qLst_l, qLst_t, qTru_n, qTru_b, qTru_i, qTru_s, qTru_l, qTru_t, qSum_l, qAny_l, qAny_t, qJoin_l, qCount_s, qEq_e, qNe_e, qRepr_e, dAsgT, dNeg, qNeg_i, dgTup, dgCons, dgName, dgNil, dPar, diR1, diOwn, diSeq, diL, diZip, diZipM, diVar, dParL, startS, toS, List.map_cons, List.map_nil, List.length_cons, List.length_nil, List.replicate, List.cons_append, List.nil_append, List.append_nil, List.getElem?_cons_zero, List.getElem?_cons_succ, List.set_cons_zero, List.set_cons_succ, Nat.reduceSub, Nat.reduceAdd, wipeS, canD, if_true, if_false, ite_true, ite_false, Bool.false_eq_true, PyData.bool.injEq, exists_eq_left', exists_eq_left, shp_i, shp_s, shp_b, shp_n, shp_e, shp_z, eqv_tt, eqv_lt, eqv_i, true_and, ix0, ix1, ix2, Option.some.injEq, PyData.tuple.injEq, PyData.list.injEq, PyData.int.injEq, PyData.str.injEq, S.own.injEq]
    refine use_draw (by decide) (by decide) (by omega) fun r hr => ⟨.inl rfl, ?_⟩
    have text : ∀ R : DQ, (∀ z : Str, z.length ≤ 4 → abc z → R (.str z) (n' + 4)) → F_word [W.dk] (n' + 1) fun d1 n2 => F_word [W.dk] n2 fun d2 n3 => 3 ≤ sizeLine ∧ F_one [W.dk, W.d (.list [.str (Str.ofString ""), d1, d2])] n3 fun d3 n4 => R d3 n4 := fun R hR =>
      ⟨rfl, by omega, fun z1 h1 => ⟨rfl, by omega, fun z2 h2 => ⟨sz6 (by decide), use_one (by simp) (by simp) (by omega) fun y hy => by
        simp only [List.mem_cons, List.not_mem_nil, or_false] at hy
        rcases hy with rfl | rfl | rfl
        · exact hR _ (by decide) (by unfold abc; decide)
        · exact hR _ h1.2.1 h1.2.2
        · exact hR _ h2.2.1 h2.2.2⟩⟩⟩
    have loop : ∀ (R : PyData → DQ) (o : Nat) (oi : Int) (c : Bool), oi = (o : Int) → (o = 0 ∨ o = 1 ∧ 1 ≤ k) → d ≠ 0 → (∀ (f : List Nat) (qs : List Part) (n2 : Nat), f.length = k + 1 → (∀ x ∈ f, x ≤ 999) → f.headD 0 ≤ 11 → isOpen f = decide (o = 1) → FineAll k c qs → qs.length ≤ 3 → depAll qs + 1 ≤ d → n' ≤ n2 → n2 ≤ n' + 6 + G → R (fmD f) (.tuple (dataAll qs)) n2) →
        F_form [W.dk, W.d (.int k), W.d (.int oi)] (n' + 1) fun d1 n2 => F_parts D [W.dk, W.d (.int k), W.d (.int ((d : Int) - 1)), W.d (.bool c)] n2 fun d2 n3 => R d1 d2 n3 := fun R o oi c eo ho hd0 hR => by
      subst eo
      have hG2 : costP (d - 1) = G := by rw [if_neg hd0] at hG; exact hG
      refine ⟨k, o, rfl, ho, hk, by omega, fun f n2 f1 f2 f3 f4 b3 b4 => ⟨k, d - 1, c, ?_, hk, by omega, by omega, by omega, fun qs n3 q1 q2 q3 b5 b6 => hR f qs n3 f1 f2 f3 f4 q1 q2 (by omega) (by omega) ?_⟩⟩
      · rw [show ((d - 1 : Nat) : Int) = (d : Int) - 1 by omega]
      · omega
    have ht := fun (z : Str) (hz : z.length ≤ 4) (ha : abc z) => And.intro (sz6 (by decide : 2 ≤ 1000000)) (more (.text z) (n' + 4) (.d (.int r)) ⟨hz, ha⟩ (Nat.zero_le _) rfl (by omega) (by omega))
    rw [qLt_i]
    refine ⟨_, rfl, ?_⟩
    by_cases h1 : (r : Int) < 3
    · rw [decide_eq_true h1, if_pos rfl]
      exact text _ ht
    · rw [decide_eq_false h1, if_neg (by decide)]
      by_cases h0 : d = 0
      · rw [if_pos (by rw [h0]; rfl)]
        exact text _ ht
      · rw [if_neg (by rw [decide_eq_true_eq]; omega)]
        have hfix := fun (f : List Nat) (qs : List Part) (n2 : Nat) (f1 : f.length = k + 1) (f2 : ∀ x ∈ f, x ≤ 999) (f3 : f.headD 0 ≤ 11) (f4 : isOpen f = decide (0 = 1)) (q1 : FineAll k cl qs) (q2 : qs.length ≤ 3) (q3 : depAll qs + 1 ≤ d) (b3 : n' ≤ n2) (b4 : n2 ≤ n' + 6 + G) => And.intro (sz6 (by decide : 3 ≤ 1000000)) (more (.loop f qs) n2 (.d (.int r)) ⟨f1, f2, f3, (fun h => by rw [f4] at h; cases h), q2, by rw [f4]; simpa using q1⟩ q3 rfl b3 b4)
        rw [qLt_i]
        refine ⟨_, rfl, ?_⟩
        by_cases h2 : (r : Int) < 6
        · rw [decide_eq_true h2, if_pos rfl]
          by_cases h3 : k = 0
          · rw [if_neg (by rw [decide_eq_true_eq]; omega)]
            exact loop _ 0 0 cl rfl (.inl rfl) h0 hfix
          · rw [if_pos (by rw [decide_eq_true_eq]; omega)]
            cases cl with
            | true =>
              rw [if_neg (by decide)]
              exact loop _ 0 0 true rfl (.inl rfl) h0 hfix
            | false =>
              rw [if_pos (by decide)]
              exact loop _ 1 1 true rfl (.inr ⟨rfl, by omega⟩) h0 fun f qs n2 f1 f2 f3 f4 q1 q2 q3 b3 b4 => ⟨sz6 (by decide), more (.loop f qs) n2 (.d (.int r)) ⟨f1, f2, f3, (fun _ => rfl), q2, by rw [f4]; exact q1⟩ q3 rfl b3 b4⟩
        · rw [decide_eq_false h2, if_neg (by decide)]
          exact loop _ 0 0 cl rfl (.inl rfl) h0 hfix
  · subst e
    simp (config := { maxSteps := 1000000 }) only [dIsi, Kd.of, dSetA, dAsgTA, dAppA, dExt, dgLst, dParLL, qSum2_l, qSum2_t, unS_d, unS_own, unS_dk, unS_un, qLe2_i, qLe2_s, qAll_l, dExt2, dPar3, dFind3, dRevS, diEnum, dSeq, dSet, dSetL, dRet, dRetO, dRetL, dIfS, dNext, dApp, dSetIx, dVar, dC, dOp, dFn, dFnL, dCons, dNil, dArg, dArgV, onD, datas, dTup, dLst, dLstL, dOfL, dAddL, dMulL, dIf, dTest, dTru, dNot, dAnd, dOr, dNotV, dAndV, dOrV, dSl, dPart, dNoPart, dCall, dMt, qAdd_i, qAdd_s, qAdd_t, qAdd_l, qSub_i, qDiv_i, qMod_i, qPow_i, qMul_i, qMul_s, qMul_t, qMul_l, qLt_i, qLe_i, qGt_i, qGe_i, qIx_l, qIx_t, qIx_s, qSl_l, qSl_t, qSl_s, qLen_l, qLen_t, qLen_s, qInt_i, qInt_b, qMin_i, qMax_i, qTup_l, qTup_t, qLst_l, qLst_t, qTru_n, qTru_b, qTru_i, qTru_s, qTru_l, qTru_t, qSum_l, qAny_l, qAny_t, qJoin_l, qCount_s, qEq_e, qNe_e, qRepr_e, dAsgT, dNeg, qNeg_i, dgTup, dgCons, dgName, dgNil, dPar, diR1, diOwn, diSeq, diL, diZip, diZipM, diVar, dParL, startS, toS, List.map_cons, List.map_nil, List.length_cons, List.length_nil, List.replicate, List.cons_append, List.nil_append, List.append_nil, List.getElem?_cons_zero, List.getElem?_cons_succ, List.set_cons_zero, List.set_cons_succ, Nat.reduceSub, Nat.reduceAdd, wipeS, canD, if_true, if_false, ite_true, ite_false, Bool.false_eq_true, PyData.bool.injEq, exists_eq_left', exists_eq_left, shp_i, shp_s, shp_b, shp_n, shp_e, shp_z, eqv_tt, eqv_lt, eqv_i, true_and, ix0, ix1, ix2, Option.some.injEq, PyData.tuple.injEq, PyData.list.injEq, PyData.int.injEq, PyData.str.injEq, S.own.injEq]
    have hl2 : ps.length ≤ 3 := by rw [hl]; have : (rangeD 0 (1 + m)).length = 1 + m := by simp [rangeD]
                                   omega
    refine hq ps n' hf hl2 hdp b1 ?_
    have hG : ps.length * (6 + if d = 0 then 0 else costP (d - 1)) ≤ 3 * (6 + if d = 0 then 0 else costP (d - 1)) := Nat.mul_le_mul_right _ hl2
    rw [← hl] at b2
    by_cases h0 : d = 0
    · rw [if_pos h0] at b2 hG
      omega
    · rw [if_neg h0] at b2 hG
      obtain ⟨e, rfl⟩ : ∃ e, d = e + 1 := ⟨d - 1, by omega⟩
      rw [Nat.add_sub_cancel] at b2 hG
      have h1 := costP_succ e
      have h2 := costP_ge e
      omega
theorem c_parts (T : Txt K mg "_law_parts" s__law_parts P__law_parts) (B : Blt mg) (C1 : Cal P w K mg base "_law_draw" P__law_draw 1 (spD F_draw)) (C2 : Cal P w K mg base "_law_one" P__law_one 2 (spD F_one)) (C3 : Cal P w K mg base "_law_word" P__law_word 3 (spD F_word)) (C4 : Cal P w K mg base "_law_form" P__law_form 3 (spD F_form)) :
    ∀ D : Nat, Cal P w K mg base "_law_parts" P__law_parts (3 + D) (spD (F_parts D))
  | 0 => cal_none T fun as n Q ⟨_, _, _, _, _, h, _⟩ => absurd h (Nat.not_lt_zero _)
  | D + 1 => c_parts_step T B C1 C2 C3 C4 (c_parts T B C1 C2 C3 C4 D)
end
end Law

namespace Law
open PySem PySem.Spec PyProof.Rows L2 Ev
/-! ### rows -/
abbrev Rw := List Str × List (Str × List Nat)
def nilS : Str := Str.ofString ""
def glueT (a b : List Str) : List Str := match b with
  | [] => a
  | h :: t => a.dropLast ++ (a.getLastD nilS ++ h) :: t
def glue (r s : Rw) : Rw := (glueT r.1 s.1, r.2 ++ s.2)
def oneR : Rw := ([nilS], [])
def repR : Nat → Rw → Rw
  | 0, _ => oneR
  | n + 1, r => glue (repR n r) r
mutual
def rowP : Part → Rw
  | .text z => ([z], [])
  | .loop f ps => if isOpen f then (if (rowA ps).1.headD nilS = nilS then oneR else ([nilS, nilS], [((rowA ps).1.headD nilS, f)])) else repR (f.headD 0) (rowA ps)
def rowA : List Part → Rw
  | [] => oneR
  | p :: r => glue (rowP p) (rowA r)
end
theorem app_assoc (a b c : Str) : a ++ b ++ c = a ++ (b ++ c) := str_ext (by rw [app_list, app_list, app_list, app_list, List.append_assoc])
theorem nil_app (a : Str) : nilS ++ a = a := str_ext (by rw [app_list]; rfl)
theorem app_nil (a : Str) : a ++ nilS = a := str_ext (by rw [app_list]; show _ ++ [] = _; rw [List.append_nil])
theorem glueT_ne {a b : List Str} (h : a ≠ [] ∨ b ≠ []) : glueT a b ≠ [] := by
  unfold glueT
  cases b with
  | nil => exact h.elim id fun h => absurd rfl h
  | cons x r => simp
theorem glueT_snoc (a : List Str) (l h : Str) (t : List Str) : glueT (a ++ [l]) (h :: t) = a ++ (l ++ h) :: t := by
  unfold glueT
  simp
theorem snoc_of {α : Type} {a : List α} (h : a ≠ []) : ∃ i l, a = i ++ [l] := ⟨a.dropLast, a.getLast h, (List.dropLast_concat_getLast h).symm⟩
theorem glueT_assoc {a b c : List Str} (ha : a ≠ []) (hb : b ≠ []) (hc : c ≠ []) : glueT (glueT a b) c = glueT a (glueT b c) := by
  obtain ⟨i, l, rfl⟩ := snoc_of ha
  cases b with
  | nil => exact absurd rfl hb
  | cons h t =>
    cases c with
    | nil => exact absurd rfl hc
    | cons x u =>
      by_cases ht : t = []
      · subst ht
        rw [glueT_snoc, show glueT [h] (x :: u) = (h ++ x) :: u from glueT_snoc [] h x u, glueT_snoc, app_assoc]
        exact (glueT_snoc i l (h ++ x) u).symm
      · obtain ⟨j, m, rfl⟩ := snoc_of ht
        rw [glueT_snoc, show i ++ (l ++ h) :: (j ++ [m]) = (i ++ (l ++ h) :: j) ++ [m] by simp, glueT_snoc, show h :: (j ++ [m]) = (h :: j) ++ [m] from rfl, glueT_snoc]
        show _ = glueT (i ++ [l]) (h :: (j ++ (m ++ x) :: u))
        rw [glueT_snoc]
        simp
theorem glueT_nil {b : List Str} (h : b ≠ []) : glueT [nilS] b = b := by
  cases b with
  | nil => exact absurd rfl h
  | cons x r => rw [show [nilS] = [] ++ [nilS] from rfl, glueT_snoc, nil_app]; rfl
theorem glueT_one {b : List Str} (h : b ≠ []) : glueT b [nilS] = b := by
  obtain ⟨i, l, rfl⟩ := snoc_of h
  rw [glueT_snoc, app_nil]
theorem glue_assoc {r s t : Rw} (ha : r.1 ≠ []) (hb : s.1 ≠ []) (hc : t.1 ≠ []) : glue (glue r s) t = glue r (glue s t) := by
  unfold glue
  rw [glueT_assoc ha hb hc, List.append_assoc]
theorem glue_one {r : Rw} (h : r.1 ≠ []) : glue r oneR = r := by unfold glue oneR; rw [glueT_one h, List.append_nil]
theorem one_glue {r : Rw} (h : r.1 ≠ []) : glue oneR r = r := by unfold glue oneR; rw [glueT_nil h, List.nil_append]
theorem repR_ne (n : Nat) (r : Rw) : (repR n r).1 ≠ [] := by
  induction n with
  | zero => simp [repR, oneR]
  | succ n ih => exact glueT_ne (.inl ih)
mutual
theorem rowP_ne : ∀ p : Part, (rowP p).1 ≠ []
  | .text z => by simp [rowP]
  | .loop f ps => by
    unfold rowP
    split
    · split
      · simp [oneR]
      · simp
    · exact repR_ne _ _
theorem rowA_ne : ∀ ps : List Part, (rowA ps).1 ≠ []
  | [] => by simp [rowA, oneR]
  | p :: r => by rw [rowA]; exact glueT_ne (.inl (rowP_ne p))
end
theorem rowA_app (a b : List Part) : rowA (a ++ b) = glue (rowA a) (rowA b) := by
  induction a with
  | nil => rw [List.nil_append, rowA, one_glue (rowA_ne b)]
  | cons p r ih => rw [List.cons_append, rowA, ih, rowA, glue_assoc (rowP_ne p) (rowA_ne r) (rowA_ne b)]
theorem rowA_snoc (a : List Part) (p : Part) : rowA (a ++ [p]) = glue (rowA a) (rowP p) := by
  rw [rowA_app, show rowA [p] = rowP p by rw [rowA, rowA, glue_one (rowP_ne p)]]
/-! lengths -/
def tl (r : Rw) : Nat := (r.1.map fun z => z.length).sum
theorem app_len (a b : Str) : (a ++ b).length = a.length + b.length := by rw [str_len, app_list, List.length_append, ← str_len, ← str_len]
theorem tl_glue {r s : Rw} (hr : r.1 ≠ []) (hs : s.1 ≠ []) : tl (glue r s) = tl r + tl s := by
  obtain ⟨i, l, e⟩ := snoc_of hr
  unfold tl glue
  rw [e]
  cases h : s.1 with
  | nil => exact absurd h hs
  | cons x u =>
    show ((glueT (i ++ [l]) (x :: u)).map _).sum = _
    rw [glueT_snoc]
    simp only [List.map_append, List.map_cons, List.map_nil, List.sum_append, List.sum_cons, List.sum_nil, app_len]
    omega
theorem tl_rep (n : Nat) {r : Rw} (h : r.1 ≠ []) : tl (repR n r) = n * tl r := by
  induction n with
  | zero => simp [repR, oneR, tl, nilS]; decide
  | succ n ih => rw [repR, tl_glue (repR_ne n r) h, ih, Nat.succ_mul]
theorem nl_rep (n : Nat) (r : Rw) : (repR n r).2.length = n * r.2.length := by
  induction n with
  | zero => simp [repR, oneR]
  | succ n ih => rw [repR, glue, List.length_append, ih, Nat.succ_mul]
theorem len_glue {r s : Rw} (hr : r.1.length = r.2.length + 1) (hs : s.1.length = s.2.length + 1) : (glue r s).1.length = (glue r s).2.length + 1 := by
  unfold glue glueT
  cases h : s.1 with
  | nil => rw [h] at hs; simp at hs
  | cons x u =>
    rw [h] at hs
    simp only [List.length_append, List.length_dropLast, List.length_cons] at hs ⊢
    omega
theorem len_rep (n : Nat) {r : Rw} (hr : r.1.length = r.2.length + 1) : (repR n r).1.length = (repR n r).2.length + 1 := by
  induction n with
  | zero => rfl
  | succ n ih => exact len_glue ih hr
mutual
theorem rowP_len : ∀ p : Part, (rowP p).1.length = (rowP p).2.length + 1
  | .text z => by simp [rowP]
  | .loop f ps => by
    unfold rowP
    split
    · split <;> rfl
    · exact len_rep _ (rowA_len ps)
theorem rowA_len : ∀ ps : List Part, (rowA ps).1.length = (rowA ps).2.length + 1
  | [] => rfl
  | p :: r => by rw [rowA]; exact len_glue (rowP_len p) (rowA_len r)
end
mutual
theorem tlP {k : Nat} {cl : Bool} : ∀ p : Part, Fine k cl p → tl (rowP p) ≤ 4 * 33 ^ p.dep ∧ (rowP p).2.length ≤ 33 ^ p.dep
  | .text z, h => by
    have h : z.length ≤ 4 := h.1
    simp [rowP, tl, Part.dep]
    omega
  | .loop f ps, h => by
    obtain ⟨h1, h2, h3, h4, h5, h6⟩ := h
    obtain ⟨i1, i2⟩ := tlA ps h6
    have hp : 33 ^ (Part.loop f ps).dep = 33 * 33 ^ depAll ps := by rw [Part.dep, Nat.pow_succ, Nat.mul_comm]
    rw [hp]
    have one : 1 ≤ 33 ^ depAll ps := Nat.one_le_pow _ _ (by decide)
    have j1 : ps.length * (4 * 33 ^ depAll ps) ≤ 3 * (4 * 33 ^ depAll ps) := Nat.mul_le_mul_right _ h5
    have j2 : ps.length * 33 ^ depAll ps ≤ 3 * 33 ^ depAll ps := Nat.mul_le_mul_right _ h5
    unfold rowP
    split
    · split
      · refine ⟨?_, ?_⟩
        · show (nilS.length + 0) ≤ _
          rw [show nilS.length = 0 by decide]; omega
        · show 0 ≤ _; omega
      · refine ⟨?_, ?_⟩
        · show (nilS.length + (nilS.length + 0)) ≤ _
          rw [show nilS.length = 0 by decide]; omega
        · show 1 ≤ _; omega
    · rw [tl_rep _ (rowA_ne ps), nl_rep]
      have k1 := Nat.mul_le_mul h3 i1
      have k2 := Nat.mul_le_mul h3 i2
      omega
theorem tlA {k : Nat} {cl : Bool} : ∀ ps : List Part, FineAll k cl ps → tl (rowA ps) ≤ ps.length * (4 * 33 ^ depAll ps) ∧ (rowA ps).2.length ≤ ps.length * 33 ^ depAll ps
  | [], _ => by simp [rowA, oneR, tl]; decide
  | p :: r, h => by
    obtain ⟨i1, i2⟩ := tlP p h.1
    obtain ⟨j1, j2⟩ := tlA r h.2
    rw [rowA, tl_glue (rowP_ne p) (rowA_ne r)]
    have e : (glue (rowP p) (rowA r)).2.length = (rowP p).2.length + (rowA r).2.length := List.length_append
    rw [e, List.length_cons]
    have q1 : (r.length + 1) * (4 * 33 ^ depAll (p :: r)) = r.length * (4 * 33 ^ depAll (p :: r)) + 4 * 33 ^ depAll (p :: r) := Nat.succ_mul _ _
    have q2 : (r.length + 1) * 33 ^ depAll (p :: r) = r.length * 33 ^ depAll (p :: r) + 33 ^ depAll (p :: r) := Nat.succ_mul _ _
    rw [q1, q2]
    have m1 : 33 ^ p.dep ≤ 33 ^ depAll (p :: r) := Nat.pow_le_pow_right (by decide) (Nat.le_max_left _ _)
    have m2 : 33 ^ depAll r ≤ 33 ^ depAll (p :: r) := Nat.pow_le_pow_right (by decide) (Nat.le_max_right _ _)
    have m3 : r.length * (4 * 33 ^ depAll r) ≤ r.length * (4 * 33 ^ depAll (p :: r)) := Nat.mul_le_mul_left _ (Nat.mul_le_mul_left _ m2)
    have m4 : r.length * 33 ^ depAll r ≤ r.length * 33 ^ depAll (p :: r) := Nat.mul_le_mul_left _ m2
    omega
end
theorem row_big {k : Nat} {cl : Bool} {ps : List Part} (h : FineAll k cl ps) (hl : ps.length ≤ 3) (hd : depAll ps ≤ 3) : tl (rowA ps) ≤ 431244 ∧ (rowA ps).2.length ≤ 107811 := by
  obtain ⟨h1, h2⟩ := tlA ps h
  have m : 33 ^ depAll ps ≤ 33 ^ 3 := Nat.pow_le_pow_right (by decide) hd
  exact ⟨Nat.le_trans h1 (Nat.le_trans (Nat.mul_le_mul hl (Nat.mul_le_mul_left _ m)) (by decide)), Nat.le_trans h2 (Nat.le_trans (Nat.mul_le_mul hl m) (by decide))⟩
/-! ### the law's own row -/
def lpD (p : Str × List Nat) : PyData := .tuple [.str p.1, fmD p.2]
def txD (ts : List Str) : List PyData := ts.map PyData.str
def lpsD (ls : List (Str × List Nat)) : List PyData := ls.map lpD
def rwL (r : Rw) : PyData := .list [.list (txD r.1), .list (lpsD r.2)]
theorem at_last {ts : List Str} (h : ts ≠ []) : atI (txD ts) (-1) = some (.str (ts.getLastD nilS)) := by
  obtain ⟨i, l, rfl⟩ := snoc_of h
  unfold atI ixN txD
  rw [List.length_map, List.length_append, if_neg (by decide), if_pos (by simp; omega)]
  show ((i ++ [l]).map PyData.str)[((-1 : Int) + ((i.length + [l].length : Nat) : Int)).toNat]? = _
  rw [show ((-1 : Int) + ((i.length + [l].length : Nat) : Int)).toNat = i.length by rw [List.length_singleton]; omega]
  simp
theorem ix_last {ts : List Str} (h : ts ≠ []) : ixN (txD ts).length (-1) = some (ts.length - 1) := by
  have : 1 ≤ ts.length := List.length_pos_iff.mpr h
  unfold ixN txD
  rw [List.length_map, if_neg (by decide), if_pos (by omega)]
  congr 1
  omega
theorem set_last {ts : List Str} (h : ts ≠ []) (z : Str) : (txD ts).set (ts.length - 1) (.str (ts.getLastD nilS ++ z)) = txD (glueT ts [z]) := by
  obtain ⟨i, l, rfl⟩ := snoc_of h
  rw [glueT_snoc]
  unfold txD
  simp
theorem at_first {ts : List Str} (h : ts ≠ []) : atI (txD ts) 0 = some (.str (ts.headD nilS)) := by
  cases ts with
  | nil => exact absurd rfl h
  | cons x r => rw [atI_zero]; rfl
theorem last_le {r : Rw} (h : r.1 ≠ []) : (r.1.getLastD nilS).length ≤ tl r := by
  obtain ⟨i, l, e⟩ := snoc_of h
  unfold tl
  rw [e]
  simp
theorem first_le {r : Rw} (h : r.1 ≠ []) : (r.1.headD nilS).length ≤ tl r := by
  unfold tl
  cases r.1 with
  | nil => simp; decide
  | cons x u => simp
theorem glueT_cons (a : List Str) (h : Str) (t : List Str) : glueT a (h :: t) = glueT a [h] ++ t := by
  unfold glueT
  simp
theorem NL_lp (h : Str) (f : List Nat) : NL (.tuple [.str h, fmD f]) = true := by simp only [NL, NLA, NL_fm, Bool.and_self]
theorem NLA_tx (ts : List Str) : NLA (txD ts) = true := NLA_map fun _ _ => rfl
theorem NLA_lps (ls : List (Str × List Nat)) : NLA (lpsD ls) = true := NLA_map fun p _ => NL_lp p.1 p.2
theorem tail_tx (ts : List Str) : (txD ts).tail = txD ts.tail := by cases ts <;> rfl
section
variable {P : Program} {w : World} {K : PySem.W.Frag} {mg : Str → Option Value} {base : Heap}
def F_row (D : Nat) : DF := fun as n Q => ∃ (k : Nat) (cl : Bool) (ps : List Part), as = [.d (.tuple (dataAll ps))] ∧ FineAll k cl ps ∧ ps.length ≤ 3 ∧ depAll ps < D ∧ depAll ps ≤ 3 ∧ Q (rwL (rowA ps)) n
theorem c_row_step {D l : Nat} (T : Txt K mg "_law_row" s__law_row P__law_row) (B : Blt mg) (C__law_row : Cal P w K mg base "_law_row" P__law_row (1 + l) (spD (F_row D))) : Cal P w K mg base "_law_row" P__law_row (1 + l + 1) (spD (F_row (D + 1))) := by
  refine T.def sc__law_row (fun as n Q h => by obtain ⟨k, cl, ps, rfl, _⟩ := h; rfl) (fun f cdv A o s H E hr hg => ⟨_, (b_cons (s_parLL (i := 1) (j := 2) rfl sc__law_row.nd rfl rfl (by decide) rfl rfl (f_lst (a_cons (g_ l_str) a_nil)) (f_lst a_nil))
  (b_cons (s_for PassesOwn.never rfl (k_seq (K := K) (by rfl) (lv 0)) (g_name (i := 3) sc__law_row.nd rfl (Or.inl rfl)) (b_one (s_if (lt_cmp (k_eq (K := K) (by rfl) hr.units) (k_ix (K := K) (by rfl) (lv 3) l_int) l_str (nomark _)) (b_one (s_setIx (lv 1) (l_neg l_int) (k_add (K := K) (by rfl) (k_ix (K := K) (by rfl) (lv 1) (l_neg l_int)) (k_ix (K := K) (by rfl) (lv 3) l_int)))) (b_cons (s_setA (i := 4) sc__law_row.nd rfl (Or.inl rfl) (l_cal C__law_row (hr.mono (by omega)) hg (by rfl) (a_cons (g_ (k_ix (K := K) (by rfl) (lv 3) l_int)) a_nil)))
  (b_one (s_if (lt_cmp c_gt (l_callB (kb_sum2 (K := K) (by rfl) rfl) (by rfl) B.sum (by decide +kernel) (a_cons (g_ (k_sl (K := K) (by rfl) (k_ix (K := K) (by rfl) (lv 3) l_int) (o_some l_int) o_none)) a_nil)) l_int (nomark _)) (b_one (s_if (lt_cmp (k_ne (K := K) (by rfl) hr.units) (k_ix (K := K) (by rfl) (k_ix (K := K) (by rfl) (lv 4) l_int) l_int) l_str (nomark _)) (b_cons (s_app (i := 2) (lv 2) (l_tup (a_cons (g_ (k_ix (K := K) (by rfl) (k_ix (K := K) (by rfl) (lv 4) l_int) l_int)) (a_cons (g_ (k_ix (K := K) (by rfl) (lv 3) l_int)) a_nil))))
  (b_one (s_app (i := 1) (lv 1) l_str))) b_nil)) (b_one (s_for PassesOwn.never rfl (i_range1 (by rfl) B.range (a_cons (g_ (k_ix (K := K) (by rfl) (k_ix (K := K) (by rfl) (lv 3) l_int) l_int)) a_nil)) (g_name (i := 5) sc__law_row.nd rfl (Or.inl rfl)) (b_cons (s_setIx (lv 1) (l_neg l_int) (k_add (K := K) (by rfl) (k_ix (K := K) (by rfl) (lv 1) (l_neg l_int)) (k_ix (K := K) (by rfl) (k_ix (K := K) (by rfl) (lv 4) l_int) l_int)))
  (b_cons (s_ext (i := 1) (lv 1) (k_sl (K := K) (by rfl) (k_ix (K := K) (by rfl) (lv 4) l_int) (o_some l_int) o_none))
  (b_one (s_ext (i := 2) (lv 2) (k_ix (K := K) (by rfl) (lv 4) l_int)))))))))))))
  (b_one (s_ret (l_lst (a_cons (gv 1) (a_cons (gv 2) a_nil)))))))⟩) (fun as n Q h => ?_)
  obtain ⟨k, cl, ps, rfl, hf, hl, hD, hd3, hq⟩ := h
  simp only [dSeq, dRet]
  simp (config := { maxSteps := 1000000 }) only [dIsi, Kd.of, dSetA, dAsgTA, dAppA, dExt, dgLst, dParLL, qSum2_l, qSum2_t, unS_d, unS_own, unS_dk, unS_un, qLe2_i, qLe2_s, qAll_l, dExt2, dPar3, dFind3, dRevS, diEnum, dSeq, dSet, dSetL, dRet, dRetO, dRetL, dIfS, dNext, dApp, dSetIx, dVar, dC, dOp, dFn, dFnL, dCons, dNil, dArg, dArgV, onD, datas, dTup, dLst, dLstL, dOfL, dAddL, dMulL, dIf, dTest, dTru, dNot, dAnd, dOr, dNotV, dAndV, dOrV, dSl, dPart, dNoPart, dCall, dMt, qAdd_i, qAdd_s, qAdd_t, qAdd_l, qSub_i, qDiv_i, qMod_i, qPow_i, qMul_i, qMul_s, qMul_t, qMul_l, qLt_i, qLe_i, qGt_i, qGe_i, qIx_l, qIx_t, qIx_s, qSl_l, qSl_t, qSl_s, qLen_l, qLen_t, qLen_s, qInt_i, qInt_b, qMin_i, qMax_i, qTup_l, qTup_t, qLst_l, qLst_t, qTru_n, qTru_b, qTru_i, qTru_s, qTru_l, qTru_t, qSum_l, qAny_l, qAny_t, qJoin_l, qCount_s, qEq_e, qNe_e, qRepr_e, dAsgT, dNeg, qNeg_i, dgTup, dgCons, dgName, dgNil, dPar, diR1, diOwn, diSeq, diL, diZip, diZipM, diVar, dParL, startS, toS, List.map_cons, List.map_nil, List.length_cons, List.length_nil, List.replicate, List.cons_append, List.nil_append, List.append_nil, List.getElem?_cons_zero, List.getElem?_cons_succ, List.set_cons_zero, List.set_cons_succ, Nat.reduceSub, Nat.reduceAdd, wipeS, canD, if_true, if_false, ite_true, ite_false, Bool.false_eq_true, PyData.bool.injEq, exists_eq_left', exists_eq_left, shp_i, shp_s, shp_b, shp_n, shp_e, shp_z, eqv_tt, eqv_lt, eqv_i, true_and, ix0, ix1, ix2, Option.some.injEq, PyData.tuple.injEq, PyData.list.injEq, PyData.int.injEq, PyData.str.injEq, S.own.injEq]
  refine ⟨sz6 (by decide), sz6 (by decide), by decide, by decide, by decide, rfl, rfl, ?_⟩
  refine ⟨rfl, .inl (by simpa [NL] using NL_datas ps), fun i ss n' => ∃ s3 s4 s5, ss = [.d (.tuple (dataAll ps)), .own (txD (rowA (ps.take i)).1), .own (lpsD (rowA (ps.take i)).2), s3, s4, s5] ∧ n' = n, ⟨.un, .un, .un, rfl, rfl⟩, fun i d ss' n' hd ⟨s3, s4, s5, e1, e2⟩ => ?_, fun ss' n' ⟨s3, s4, s5, e1, e2⟩ => ?_⟩
  · subst e1 e2
    replace hd : (dataAll ps)[i]? = some d := hd
    rw [dataAll_map, List.getElem?_map] at hd
    obtain ⟨pt, hpt, rfl⟩ := Option.map_eq_some_iff.mp hd
    have hg := FineAll_iff.mp hf pt (List.mem_of_getElem? hpt)
    have hdp : pt.dep ≤ depAll ps := depAll_le.mp (Nat.le_refl _) pt (List.mem_of_getElem? hpt)
    have tk : rowA (ps.take (i + 1)) = glue (rowA (ps.take i)) (rowP pt) := by
      rw [List.take_add_one, hpt]
      exact rowA_snoc _ _
    simp only [tk]
    have hne := rowA_ne (ps.take i)
    have hbig : tl (rowA (ps.take i)) ≤ 431244 ∧ (rowA (ps.take i)).2.length ≤ 107811 := row_big (k := k) (cl := cl) (FineAll_iff.mpr fun p hp => FineAll_iff.mp hf p (List.mem_of_mem_take hp)) (Nat.le_trans (List.length_take_le' _ _) hl) (depAll_le.mpr fun p hp => Nat.le_trans (depAll_le.mp (Nat.le_refl _) p (List.mem_of_mem_take hp)) hd3)
    have hlen := rowA_len (ps.take i)
    generalize rowA (ps.take i) = R at hne hbig hlen ⊢
    cases pt with
    | text z =>
      simp only [Part.data]
      simp (config := { maxSteps := 1000000 }) only [dIsi, Kd.of, dSetA, dAsgTA, dAppA, dExt, dgLst, dParLL, qSum2_l, qSum2_t, unS_d, unS_own, unS_dk, unS_un, qLe2_i, qLe2_s, qAll_l, dExt2, dPar3, dFind3, dRevS, diEnum, dSeq, dSet, dSetL, dRet, dRetO, dRetL, dIfS, dNext, dApp, dSetIx, dVar, dC, dOp, dFn, dFnL, dCons, dNil, dArg, dArgV, onD, datas, dTup, dLst, dLstL, dOfL, dAddL, dMulL, dIf, dTest, dTru, dNot, dAnd, dOr, dNotV, dAndV, dOrV, dSl, dPart, dNoPart, dCall, dMt, qAdd_i, qAdd_s, qAdd_t, qAdd_l, qSub_i, qDiv_i, qMod_i, qPow_i, qMul_i, qMul_s, qMul_t, qMul_l, qLt_i, qLe_i, qGt_i, qGe_i, qIx_l, qIx_t, qIx_s, qSl_l, qSl_t, qSl_s, qLen_l, qLen_t, qLen_s, qInt_i, qInt_b, qMin_i, qMax_i, qTup_l, qTup_t, qLst_l, qLst_t, qTru_n, qTru_b, qTru_i, qTru_s, qTru_l, qTru_t, qSum_l, qAny_l, qAny_t, qJoin_l, qCount_s, qEq_e, qNe_e, qRepr_e, dAsgT, dNeg, qNeg_i, dgTup, dgCons, dgName, dgNil, dPar, diR1, diOwn, diSeq, diL, diZip, diZipM, diVar, dParL, startS, toS, List.map_cons, List.map_nil, List.length_cons, List.length_nil, List.replicate, List.cons_append, List.nil_append, List.append_nil, List.getElem?_cons_zero, List.getElem?_cons_succ, List.set_cons_zero, List.set_cons_succ, Nat.reduceSub, Nat.reduceAdd, wipeS, canD, if_true, if_false, ite_true, ite_false, Bool.false_eq_true, PyData.bool.injEq, exists_eq_left', exists_eq_left, shp_i, shp_s, shp_b, shp_n, shp_e, shp_z, eqv_tt, eqv_lt, eqv_i, true_and, ix0, ix1, ix2, Option.some.injEq, PyData.tuple.injEq, PyData.list.injEq, PyData.int.injEq, PyData.str.injEq, S.own.injEq]
      refine ⟨_, at_last hne, ⟨sz6 (by have := last_le hne; have : z.length ≤ 4 := hg.1; omega), _, _, rfl, ix_last hne, rfl, .d (.tuple [.str (Str.ofString "text"), .str z]), s4, s5, ?_, trivial⟩⟩
      rw [set_last hne]
      show _ = [_, S.own (txD (glueT R.1 [z])), S.own (lpsD (R.2 ++ [])), _, _, _]
      rw [List.append_nil]
    | loop f qs =>
      obtain ⟨g1, g2, g3, g4, g5, g6⟩ := hg
      simp only [Part.data]
      simp (config := { maxSteps := 1000000 }) only [dIsi, Kd.of, dSetA, dAsgTA, dAppA, dExt, dgLst, dParLL, qSum2_l, qSum2_t, unS_d, unS_own, unS_dk, unS_un, qLe2_i, qLe2_s, qAll_l, dExt2, dPar3, dFind3, dRevS, diEnum, dSeq, dSet, dSetL, dRet, dRetO, dRetL, dIfS, dNext, dApp, dSetIx, dVar, dC, dOp, dFn, dFnL, dCons, dNil, dArg, dArgV, onD, datas, dTup, dLst, dLstL, dOfL, dAddL, dMulL, dIf, dTest, dTru, dNot, dAnd, dOr, dNotV, dAndV, dOrV, dSl, dPart, dNoPart, dCall, dMt, qAdd_i, qAdd_s, qAdd_t, qAdd_l, qSub_i, qDiv_i, qMod_i, qPow_i, qMul_i, qMul_s, qMul_t, qMul_l, qLt_i, qLe_i, qGt_i, qGe_i, qIx_l, qIx_t, qIx_s, qSl_l, qSl_t, qSl_s, qLen_l, qLen_t, qLen_s, qInt_i, qInt_b, qMin_i, qMax_i, qTup_l, qTup_t, qLst_l, qLst_t, qTru_n, qTru_b, qTru_i, qTru_s, qTru_l, qTru_t, qSum_l, qAny_l, qAny_t, qJoin_l, qCount_s, qEq_e, qNe_e, qRepr_e, dAsgT, dNeg, qNeg_i, dgTup, dgCons, dgName, dgNil, dPar, diR1, diOwn, diSeq, diL, diZip, diZipM, diVar, dParL, startS, toS, List.map_cons, List.map_nil, List.length_cons, List.length_nil, List.replicate, List.cons_append, List.nil_append, List.append_nil, List.getElem?_cons_zero, List.getElem?_cons_succ, List.set_cons_zero, List.set_cons_succ, Nat.reduceSub, Nat.reduceAdd, wipeS, canD, if_true, if_false, ite_true, ite_false, Bool.false_eq_true, PyData.bool.injEq, exists_eq_left', exists_eq_left, shp_i, shp_s, shp_b, shp_n, shp_e, shp_z, eqv_tt, eqv_lt, eqv_i, true_and, ix0, ix1, ix2, Option.some.injEq, PyData.tuple.injEq, PyData.list.injEq, PyData.int.injEq, PyData.str.injEq, S.own.injEq]
      have hdq : depAll qs + 1 ≤ depAll ps := hdp
      have hb1 : tl (rowA qs) ≤ 13068 ∧ (rowA qs).2.length ≤ 3267 := by
        obtain ⟨h1, h2⟩ := tlA qs g6
        have m : 33 ^ depAll qs ≤ 33 ^ 2 := Nat.pow_le_pow_right (by decide) (by omega)
        exact ⟨Nat.le_trans h1 (Nat.le_trans (Nat.mul_le_mul g5 (Nat.mul_le_mul_left _ m)) (by decide)), Nat.le_trans h2 (Nat.le_trans (Nat.mul_le_mul g5 m) (by decide))⟩
      have hBl := rowA_len qs
      refine ⟨k, cl || isOpen f, qs, rfl, g6, g5, by omega, by omega, ?_⟩
      have hB := rowA_ne qs
      have hrp : rowP (.loop f qs) = if isOpen f then (if (rowA qs).1.headD nilS = nilS then oneR else ([nilS, nilS], [((rowA qs).1.headD nilS, f)])) else repR (f.headD 0) (rowA qs) := by rw [rowP]
      rw [hrp]
      generalize rowA qs = U at hB hb1 hBl ⊢
      have esl : ∀ Q : PyData → Prop, qSum2 [.tuple (cut (fI f) (some 1) none)] Q → qSl (fmD f) (some 1) none (fun x => qSum2 [x] Q) := fun Q h => h
      refine esl _ ?_
      rw [cut_tail, tail_fI]
      refine ⟨f.tail.map fun (x : Nat) => (x : Int), by rw [List.map_map]; rfl, ?_⟩
      rw [sum_cast]
      simp only [qGt_i]
      refine ⟨_, rfl, ?_⟩
      have hop : isOpen f = decide (f.tail.sum ≠ 0) := any_sum f.tail
      by_cases h0 : f.tail.sum = 0
      · rw [if_neg (by rw [decide_eq_true_eq]; omega), hop, if_neg (by simp [h0])]
        obtain ⟨c, g, rfl⟩ : ∃ c g, f = c :: g := by
          cases f with
          | nil => cases g1
          | cons c g => exact ⟨c, g, rfl⟩
        refine ⟨_, ix1, _, ix0, (c : Int), rfl, by have h : c ≤ 11 := g3; omega, by have h : c ≤ 11 := g3; omega, fun j ss n2 => ∃ s5, ss = [.d (.tuple (dataAll ps)), .own (txD (glue R (repR j U)).1), .own (lpsD (glue R (repR j U)).2), .d (.tuple [.str (Str.ofString "loop"), fmD (c :: g), .tuple (dataAll qs)]), .d (rwL U), s5] ∧ n2 = n',
          ⟨s5, by rw [repR, glue_one hne], rfl⟩, fun j x ss n2 hx ⟨s5', e1, e2⟩ => ?_, fun ss n2 ⟨s5', e1, e2⟩ => ?_⟩
        · subst e1 e2
          have hj : j < c := by
            have h := (List.getElem?_eq_some_iff.mp hx).1
            simpa [rangeD] using h
          have hc11 : c ≤ 11 := g3
          have hrn := repR_ne j U
          have rp : glue R (repR (j + 1) U) = glue (glue R (repR j U)) U := by rw [repR, glue_assoc hne hrn hB]
          simp only [rp]
          have b1 : tl (glue R (repR j U)) ≤ 600000 := by
            rw [tl_glue hne hrn, tl_rep _ hB]
            have := Nat.mul_le_mul (by omega : j ≤ 11) hb1.1
            omega
          have b2 : (glue R (repR j U)).2.length ≤ 200000 := by
            show (R.2 ++ _).length ≤ _
            rw [List.length_append, nl_rep]
            have := Nat.mul_le_mul (by omega : j ≤ 11) hb1.2
            omega
          have b3 := len_glue hlen (len_rep j hBl)
          have hne' : (glue R (repR j U)).1 ≠ [] := glueT_ne (.inl hne)
          generalize glue R (repR j U) = R' at hne' b1 b2 b3 ⊢
          simp (config := { maxSteps := 1000000 }) only [dIsi, Kd.of, dSetA, dAsgTA, dAppA, dExt, dgLst, dParLL, qSum2_l, qSum2_t, unS_d, unS_own, unS_dk, unS_un, qLe2_i, qLe2_s, qAll_l, dExt2, dPar3, dFind3, dRevS, diEnum, dSeq, dSet, dSetL, dRet, dRetO, dRetL, dIfS, dNext, dApp, dSetIx, dVar, dC, dOp, dFn, dFnL, dCons, dNil, dArg, dArgV, onD, datas, dTup, dLst, dLstL, dOfL, dAddL, dMulL, dIf, dTest, dTru, dNot, dAnd, dOr, dNotV, dAndV, dOrV, dSl, dPart, dNoPart, dCall, dMt, qAdd_i, qAdd_s, qAdd_t, qAdd_l, qSub_i, qDiv_i, qMod_i, qPow_i, qMul_i, qMul_s, qMul_t, qMul_l, qLt_i, qLe_i, qGt_i, qGe_i, qIx_l, qIx_t, qIx_s, qSl_l, qSl_t, qSl_s, qLen_l, qLen_t, qLen_s, qInt_i, qInt_b, qMin_i, qMax_i, qTup_l, qTup_t, qLst_l, qLst_t, qTru_n, qTru_b, qTru_i, qTru_s, qTru_l, qTru_t, qSum_l, qAny_l, qAny_t, qJoin_l, qCount_s, qEq_e, qNe_e, qRepr_e, dAsgT, dNeg, qNeg_i, dgTup, dgCons, dgName, dgNil, dPar, diR1, diOwn, diSeq, diL, diZip, diZipM, diVar, dParL, startS, toS, List.map_cons, List.map_nil, List.length_cons, List.length_nil, List.replicate, List.cons_append, List.nil_append, List.append_nil, List.getElem?_cons_zero, List.getElem?_cons_succ, List.set_cons_zero, List.set_cons_succ, Nat.reduceSub, Nat.reduceAdd, wipeS, canD, if_true, if_false, ite_true, ite_false, Bool.false_eq_true, PyData.bool.injEq, exists_eq_left', exists_eq_left, shp_i, shp_s, shp_b, shp_n, shp_e, shp_z, eqv_tt, eqv_lt, eqv_i, true_and, ix0, ix1, ix2, Option.some.injEq, PyData.tuple.injEq, PyData.list.injEq, PyData.int.injEq, PyData.str.injEq, S.own.injEq]
          have hz : (R'.1.getLastD nilS).length + (U.1.headD nilS).length ≤ 1000000 := by
            have h1 := last_le hne'
            have h2 := first_le hB
            omega
          have hct : cut (txD U.1) (some 1) none = txD U.1.tail := by rw [cut_tail, tail_tx]
          have htl : (txD U.1.tail).length = U.1.length - 1 := by rw [txD, List.length_map, List.length_tail]
          refine ⟨_, at_last hne', _, ix0, _, at_first hB, sz6 hz, _, _, rfl, ix_last hne', rfl, _, ix0, _, rfl, ?_, by rw [hct]; exact NLA_tx _, _, ix1, _, rfl, ?_, NLA_lps _, S.d x, ?_, trivial⟩
          · rw [hct, htl, List.length_set, txD, List.length_map]
            exact sz6 (by omega)
          · rw [lpsD, lpsD, List.length_map, List.length_map]
            exact sz6 (by omega)
          · rw [set_last hne', hct]
            have e1 : txD (glueT R'.1 [U.1.headD nilS]) ++ txD U.1.tail = txD (glue R' U).1 := by
              unfold txD glue
              rw [← List.map_append]
              cases hU : U.1 with
              | nil => exact absurd hU hB
              | cons u us => rw [glueT_cons R'.1 u us]; rfl
            have e2 : lpsD R'.2 ++ lpsD U.2 = lpsD (glue R' U).2 := by
              unfold lpsD glue
              rw [List.map_append]
            rw [e1, e2]
        · subst e1 e2
          rw [range_len, Int.toNat_natCast]
          exact ⟨_, _, _, rfl, rfl⟩
      · rw [if_pos (by rw [decide_eq_true_eq]; omega), hop, if_pos (by simp [h0])]
        refine ⟨_, ix0, _, at_first hB, rfl, ?_⟩
        rw [eqv_s]
        by_cases hh : U.1.headD nilS = nilS
        · rw [if_neg (by rw [hh]; decide), if_pos hh, glue_one hne]
          exact ⟨_, _, _, rfl, trivial⟩
        · rw [if_pos (by simpa [nilS] using hh), if_neg hh]
          refine ⟨_, ix0, _, at_first hB, sz6 (by decide), ?_, NL_lp _ _, ?_, rfl, .d (.tuple [.str (Str.ofString "loop"), fmD f, .tuple (dataAll qs)]), .d (rwL U), s5, ?_, trivial⟩
          · exact Nat.lt_of_le_of_lt (by rw [lpsD, List.length_map]; exact hbig.2) (by decide)
          · exact Nat.lt_of_le_of_lt (by rw [txD, List.length_map, hlen]; omega : _ ≤ 107812) (by decide)
          · show _ = [_, S.own (txD (glueT R.1 [nilS, nilS])), S.own (lpsD (R.2 ++ [(U.1.headD nilS, f)])), _, _, _]
            rw [glueT_cons, glueT_one hne]
            unfold txD lpsD
            rw [List.map_append, List.map_append]
            rfl
  · subst e1 e2
    simp (config := { maxSteps := 1000000 }) only [dIsi, Kd.of, dSetA, dAsgTA, dAppA, dExt, dgLst, dParLL, qSum2_l, qSum2_t, unS_d, unS_own, unS_dk, unS_un, qLe2_i, qLe2_s, qAll_l, dExt2, dPar3, dFind3, dRevS, diEnum, dSeq, dSet, dSetL, dRet, dRetO, dRetL, dIfS, dNext, dApp, dSetIx, dVar, dC, dOp, dFn, dFnL, dCons, dNil, dArg, dArgV, onD, datas, dTup, dLst, dLstL, dOfL, dAddL, dMulL, dIf, dTest, dTru, dNot, dAnd, dOr, dNotV, dAndV, dOrV, dSl, dPart, dNoPart, dCall, dMt, qAdd_i, qAdd_s, qAdd_t, qAdd_l, qSub_i, qDiv_i, qMod_i, qPow_i, qMul_i, qMul_s, qMul_t, qMul_l, qLt_i, qLe_i, qGt_i, qGe_i, qIx_l, qIx_t, qIx_s, qSl_l, qSl_t, qSl_s, qLen_l, qLen_t, qLen_s, qInt_i, qInt_b, qMin_i, qMax_i, qTup_l, qTup_t, qLst_l, qLst_t, qTru_n, qTru_b, qTru_i, qTru_s, qTru_l, qTru_t, qSum_l, qAny_l, qAny_t, qJoin_l, qCount_s, qEq_e, qNe_e, qRepr_e, dAsgT, dNeg, qNeg_i, dgTup, dgCons, dgName, dgNil, dPar, diR1, diOwn, diSeq, diL, diZip, diZipM, diVar, dParL, startS, toS, List.map_cons, List.map_nil, List.length_cons, List.length_nil, List.replicate, List.cons_append, List.nil_append, List.append_nil, List.getElem?_cons_zero, List.getElem?_cons_succ, List.set_cons_zero, List.set_cons_succ, Nat.reduceSub, Nat.reduceAdd, wipeS, canD, if_true, if_false, ite_true, ite_false, Bool.false_eq_true, PyData.bool.injEq, exists_eq_left', exists_eq_left, shp_i, shp_s, shp_b, shp_n, shp_e, shp_z, eqv_tt, eqv_lt, eqv_i, true_and, ix0, ix1, ix2, Option.some.injEq, PyData.tuple.injEq, PyData.list.injEq, PyData.int.injEq, PyData.str.injEq, S.own.injEq]
    rw [show (itemsOf (PyData.tuple (dataAll ps))).length = ps.length by show (dataAll ps).length = _; rw [dataAll_map, List.length_map], List.take_length]
    exact ⟨sz6 (by decide), hq⟩
theorem c_row (T : Txt K mg "_law_row" s__law_row P__law_row) (B : Blt mg) : ∀ D : Nat, Cal P w K mg base "_law_row" P__law_row (1 + D) (spD (F_row D))
  | 0 => cal_none T fun as n Q ⟨_, _, _, _, _, _, h, _⟩ => absurd h (Nat.not_lt_zero _)
  | D + 1 => c_row_step T B (c_row T B D)
end
end Law

namespace Law
open PySem PySem.Spec PyProof.Rows L2 Ev
section
variable {P : Program} {w : World} {K : PySem.W.Frag} {mg : Str → Option Value} {base : Heap}
def wl (ls : List (Str × List Nat)) : Nat := (ls.map fun p => p.1.length * (1 + p.2.headD 0)).sum
/-- what the law's size asks of a row's loops: words and forms within bounds -/
def lpOk (p : Str × List Nat) : Prop := p.1.length ≤ 1000000 ∧ p.2 ≠ [] ∧ p.2.headD 0 ≤ 11
def F_size : DF := fun as n Q => ∃ (ts : List Str) (ls : List (Str × List Nat)), as = [.d (.list (txD ts)), .d (.list (lpsD ls))] ∧ ts.length ≤ 1000000 ∧ ls.length ≤ 1000000 ∧ (∀ z ∈ ts, z.length ≤ 1000000) ∧ (∀ p ∈ ls, lpOk p) ∧ Q (.int (((ts.map fun z => z.length).sum + wl ls : Nat) : Int)) n
theorem c_size (T : Txt K mg "_law_size" s__law_size P__law_size) (B : Blt mg) : Cal P w K mg base "_law_size" P__law_size 1 (spD F_size) := by
  refine T.def sc__law_size (fun as n Q h => by obtain ⟨ts, ls, rfl, _⟩ := h; rfl) (fun f cdv A o s H E hr hg => ⟨_, (b_one (s_ret (k_add (K := K) (by rfl) (l_callB (kb_sum2 (K := K) (by rfl) rfl) (by rfl) B.sum (by decide +kernel) (a_cons (g_ (l_L (f_lc (own := [("_law_text", 2)]) rfl sc__law_size.nd (ic_ (k_seq (K := K) (by rfl) (lv 0))) (blkOk_by (own := [("_law_text", 2)]) (N := N__law_size) (sc := defScope s__law_size) (by decide +kernel)) (fun _ _ _ _ _ => (g_name (i := 2) sc__law_size.nd rfl (Or.inl rfl))) (fun _ _ _ _ _ => ts_nil) (fun _ _ _ _ _ => (l_callB (kb_len (K := K) (by rfl)) (by rfl) B.len (by decide +kernel) (a_cons (gv 2) a_nil)))))) a_nil)) (l_callB (kb_sum2 (K := K) (by rfl) rfl) (by rfl) B.sum (by decide +kernel) (a_cons (g_ (l_L (f_lc (own := [("_law_word_here", 3), ("_law_form_here", 4)]) rfl sc__law_size.nd (ic_ (k_seq (K := K) (by rfl) (lv 1))) (blkOk_by (own := [("_law_word_here", 3), ("_law_form_here", 4)]) (N := N__law_size) (sc := defScope s__law_size) (by decide +kernel)) (fun _ _ _ _ _ => (k_tup (n := 2) (K := K) (by rfl) (by rfl) (gs_cons (g_name (i := 3) sc__law_size.nd rfl (Or.inl rfl)) (gs_cons (g_name (i := 4) sc__law_size.nd rfl (Or.inl rfl)) gs_nil)))) (fun _ _ _ _ _ => ts_nil) (fun _ _ _ _ _ => (k_mul (K := K) (by rfl) (l_callB (kb_len (K := K) (by rfl)) (by rfl) B.len (by decide +kernel) (a_cons (gv 3) a_nil)) (k_add (K := K) (by rfl) l_int (k_ix (K := K) (by rfl) (lv 4) l_int))))))) a_nil)))))⟩) (fun as n Q h => ?_)
  obtain ⟨ts, ls, rfl, h1, h2, h3, h4, hq⟩ := h
  simp only [dSeq, dRet]
  simp (config := { maxSteps := 1000000 }) only [dIsi, Kd.of, dSetA, dAsgTA, dAppA, dExt, dgLst, dParLL, qSum2_l, qSum2_t, unS_d, unS_own, unS_dk, unS_un, qLe2_i, qLe2_s, qAll_l, dExt2, dPar3, dFind3, dRevS, diEnum, dSeq, dSet, dSetL, dRet, dRetO, dRetL, dIfS, dNext, dApp, dSetIx, dVar, dC, dOp, dFn, dFnL, dCons, dNil, dArg, dArgV, onD, datas, dTup, dLst, dLstL, dOfL, dAddL, dMulL, dIf, dTest, dTru, dNot, dAnd, dOr, dNotV, dAndV, dOrV, dSl, dPart, dNoPart, dCall, dMt, qAdd_i, qAdd_s, qAdd_t, qAdd_l, qSub_i, qDiv_i, qMod_i, qPow_i, qMul_i, qMul_s, qMul_t, qMul_l, qLt_i, qLe_i, qGt_i, qGe_i, qIx_l, qIx_t, qIx_s, qSl_l, qSl_t, qSl_s, qLen_l, qLen_t, qLen_s, qInt_i, qInt_b, qMin_i, qMax_i, qTup_l, qTup_t, qLst_l, qLst_t, qTru_n, qTru_b, qTru_i, qTru_s, qTru_l, qTru_t, qSum_l, qAny_l, qAny_t, qJoin_l, qCount_s, qEq_e, qNe_e, qRepr_e, dAsgT, dNeg, qNeg_i, dgTup, dgCons, dgName, dgNil, dPar, diR1, diOwn, diSeq, diL, diZip, diZipM, diVar, dParL, startS, toS, List.map_cons, List.map_nil, List.length_cons, List.length_nil, List.replicate, List.cons_append, List.nil_append, List.append_nil, List.getElem?_cons_zero, List.getElem?_cons_succ, List.set_cons_zero, List.set_cons_succ, Nat.reduceSub, Nat.reduceAdd, wipeS, canD, if_true, if_false, ite_true, ite_false, Bool.false_eq_true, PyData.bool.injEq, exists_eq_left', exists_eq_left, shp_i, shp_s, shp_b, shp_n, shp_e, shp_z, eqv_tt, eqv_lt, eqv_i, true_and, ix0, ix1, ix2, Option.some.injEq, PyData.tuple.injEq, PyData.list.injEq, PyData.int.injEq, PyData.str.injEq, S.own.injEq]
  refine lc_mapA ts PyData.str (fun z => PyData.int (z.length : Int)) n rfl (fun R hR => ⟨rfl, .inr rfl, hR⟩) (sz6 h1) (fun z hz => ⟨rfl, fun R hR => ?_⟩) ?_
  · simp (config := { maxSteps := 1000000 }) only [dIsi, Kd.of, dSetA, dAsgTA, dAppA, dExt, dgLst, dParLL, qSum2_l, qSum2_t, unS_d, unS_own, unS_dk, unS_un, qLe2_i, qLe2_s, qAll_l, dExt2, dPar3, dFind3, dRevS, diEnum, dSeq, dSet, dSetL, dRet, dRetO, dRetL, dIfS, dNext, dApp, dSetIx, dVar, dC, dOp, dFn, dFnL, dCons, dNil, dArg, dArgV, onD, datas, dTup, dLst, dLstL, dOfL, dAddL, dMulL, dIf, dTest, dTru, dNot, dAnd, dOr, dNotV, dAndV, dOrV, dSl, dPart, dNoPart, dCall, dMt, qAdd_i, qAdd_s, qAdd_t, qAdd_l, qSub_i, qDiv_i, qMod_i, qPow_i, qMul_i, qMul_s, qMul_t, qMul_l, qLt_i, qLe_i, qGt_i, qGe_i, qIx_l, qIx_t, qIx_s, qSl_l, qSl_t, qSl_s, qLen_l, qLen_t, qLen_s, qInt_i, qInt_b, qMin_i, qMax_i, qTup_l, qTup_t, qLst_l, qLst_t, qTru_n, qTru_b, qTru_i, qTru_s, qTru_l, qTru_t, qSum_l, qAny_l, qAny_t, qJoin_l, qCount_s, qEq_e, qNe_e, qRepr_e, dAsgT, dNeg, qNeg_i, dgTup, dgCons, dgName, dgNil, dPar, diR1, diOwn, diSeq, diL, diZip, diZipM, diVar, dParL, startS, toS, List.map_cons, List.map_nil, List.length_cons, List.length_nil, List.replicate, List.cons_append, List.nil_append, List.append_nil, List.getElem?_cons_zero, List.getElem?_cons_succ, List.set_cons_zero, List.set_cons_succ, Nat.reduceSub, Nat.reduceAdd, wipeS, canD, if_true, if_false, ite_true, ite_false, Bool.false_eq_true, PyData.bool.injEq, exists_eq_left', exists_eq_left, shp_i, shp_s, shp_b, shp_n, shp_e, shp_z, eqv_tt, eqv_lt, eqv_i, true_and, ix0, ix1, ix2, Option.some.injEq, PyData.tuple.injEq, PyData.list.injEq, PyData.int.injEq, PyData.str.injEq, S.own.injEq]
    exact ⟨sz6 (h3 z hz), hR⟩
  · refine ⟨(ts.map fun z => z.length).map fun (x : Nat) => (x : Int), by rw [List.map_map, List.map_map]; rfl, ?_⟩
    rw [sum_cast]
    refine lc_mapB ls (fun p => PyData.str p.1) (fun p => fmD p.2) (fun p => PyData.int ((p.1.length * (1 + p.2.headD 0) : Nat) : Int)) n rfl (fun R hR => ⟨rfl, .inr rfl, hR⟩) (sz6 h2) (fun p hp => ⟨rfl, fun R hR => ?_⟩) ?_
    · obtain ⟨z, f⟩ := p
      obtain ⟨b1, b2, b3⟩ := h4 _ hp
      obtain ⟨a, g, rfl⟩ : ∃ a g, f = a :: g := by
        cases f with
        | nil => exact absurd rfl b2
        | cons a g => exact ⟨a, g, rfl⟩
      have b1 : z.length ≤ 1000000 := b1
      have b3 : a ≤ 11 := b3
      have e0 : fmD (a :: g) = .tuple (.int (a : Int) :: fI g) := rfl
      simp only [e0]
      simp (config := { maxSteps := 1000000 }) only [dIsi, Kd.of, dSetA, dAsgTA, dAppA, dExt, dgLst, dParLL, qSum2_l, qSum2_t, unS_d, unS_own, unS_dk, unS_un, qLe2_i, qLe2_s, qAll_l, dExt2, dPar3, dFind3, dRevS, diEnum, dSeq, dSet, dSetL, dRet, dRetO, dRetL, dIfS, dNext, dApp, dSetIx, dVar, dC, dOp, dFn, dFnL, dCons, dNil, dArg, dArgV, onD, datas, dTup, dLst, dLstL, dOfL, dAddL, dMulL, dIf, dTest, dTru, dNot, dAnd, dOr, dNotV, dAndV, dOrV, dSl, dPart, dNoPart, dCall, dMt, qAdd_i, qAdd_s, qAdd_t, qAdd_l, qSub_i, qDiv_i, qMod_i, qPow_i, qMul_i, qMul_s, qMul_t, qMul_l, qLt_i, qLe_i, qGt_i, qGe_i, qIx_l, qIx_t, qIx_s, qSl_l, qSl_t, qSl_s, qLen_l, qLen_t, qLen_s, qInt_i, qInt_b, qMin_i, qMax_i, qTup_l, qTup_t, qLst_l, qLst_t, qTru_n, qTru_b, qTru_i, qTru_s, qTru_l, qTru_t, qSum_l, qAny_l, qAny_t, qJoin_l, qCount_s, qEq_e, qNe_e, qRepr_e, dAsgT, dNeg, qNeg_i, dgTup, dgCons, dgName, dgNil, dPar, diR1, diOwn, diSeq, diL, diZip, diZipM, diVar, dParL, startS, toS, List.map_cons, List.map_nil, List.length_cons, List.length_nil, List.replicate, List.cons_append, List.nil_append, List.append_nil, List.getElem?_cons_zero, List.getElem?_cons_succ, List.set_cons_zero, List.set_cons_succ, Nat.reduceSub, Nat.reduceAdd, wipeS, canD, if_true, if_false, ite_true, ite_false, Bool.false_eq_true, PyData.bool.injEq, exists_eq_left', exists_eq_left, shp_i, shp_s, shp_b, shp_n, shp_e, shp_z, eqv_tt, eqv_lt, eqv_i, true_and, ix0, ix1, ix2, Option.some.injEq, PyData.tuple.injEq, PyData.list.injEq, PyData.int.injEq, PyData.str.injEq, S.own.injEq]
      have e1 : (1 : Int) + (a : Int) = ((1 + a : Nat) : Int) := by omega
      rw [e1]
      refine ⟨sz6 b1, cmulN (Nat.le_trans b1 (by decide)) (Nat.le_trans (by omega : 1 + a ≤ 12) (by decide)), ?_⟩
      rw [← Int.natCast_mul]
      exact hR
    · refine ⟨(ls.map fun p => p.1.length * (1 + p.2.headD 0)).map fun (x : Nat) => (x : Int), by rw [List.map_map, List.map_map]; rfl, ?_⟩
      rw [sum_cast, ← Int.natCast_add]
      exact hq
end
end Law

namespace Law
open PySem PySem.Spec PyProof.Rows L2 Ev
/-! ### programs drawn, with their rows -/
theorem dropLast_data (ps : List Part) : (dataAll ps).dropLast = dataAll ps.dropLast := by rw [dataAll_map, dataAll_map, List.map_dropLast]
theorem cut_last {α : Type} (xs : List α) : cut xs none (some (-1)) = xs.dropLast := by
  unfold cut
  rw [HT.sIx_none xs.length 0, List.drop_zero, Nat.sub_zero]
  have : HT.sIx xs.length xs.length (some (-1)) = xs.length - 1 := by
    show (if (-1 : Int) < 0 then ((-1 : Int) + (xs.length : Int)).toNat else min ((-1 : Int).toNat) xs.length) = xs.length - 1
    rw [if_pos (by decide)]
    omega
  rw [this, List.dropLast_eq_take]
def rsz (r : Rw) : Nat := tl r + wl r.2
def progD (k : Nat) (ps : List Part) : PyData := .tuple [.int k, .tuple (dataAll ps)]
def rowD (k : Nat) (r : Rw) : PyData := .tuple [.int k, .tuple (txD r.1), .tuple (lpsD r.2)]
def lpFine (k : Nat) (p : Str × List Nat) : Prop := p.1 ≠ nilS ∧ abc p.1 ∧ p.1.length ≤ 431244 ∧ p.2.length = k + 1 ∧ isOpen p.2 = true ∧ (∀ x ∈ p.2, x ≤ 999) ∧ p.2.headD 0 ≤ 11
def rwFine (k : Nat) (r : Rw) : Prop := (∀ z ∈ r.1, abc z) ∧ ∀ p ∈ r.2, lpFine k p
theorem abc_app {a b : Str} (h : abc a) (h2 : abc b) : abc (a ++ b) := fun c hc => by
  rw [app_list] at hc
  exact (List.mem_append.mp hc).elim (h c) (h2 c)
theorem abc_nil : abc nilS := by unfold abc nilS; decide
theorem rw_glue {k : Nat} {r s : Rw} (hr : r.1 ≠ []) (hs : s.1 ≠ []) (h1 : rwFine k r) (h2 : rwFine k s) : rwFine k (glue r s) := by
  refine ⟨fun z hz => ?_, fun p hp => (List.mem_append.mp hp).elim (h1.2 p) (h2.2 p)⟩
  obtain ⟨i, l, e⟩ := snoc_of hr
  have hz : z ∈ glueT r.1 s.1 := hz
  have m1 := h1.1
  have m2 := h2.1
  rw [e] at hz m1
  cases hS : s.1 with
  | nil => exact absurd hS hs
  | cons x u =>
    rw [hS, glueT_snoc] at hz
    rw [hS] at m2
    rcases List.mem_append.mp hz with hz | hz
    · exact m1 z (List.mem_append_left _ hz)
    · rcases List.mem_cons.mp hz with hz | hz
      · rw [hz]
        exact abc_app (m1 l (by simp)) (m2 x List.mem_cons_self)
      · exact m2 z (List.mem_cons_of_mem _ hz)
theorem rw_one {k : Nat} : rwFine k oneR := ⟨fun z hz => by rw [List.mem_singleton.mp hz]; exact abc_nil, fun p hp => by cases hp⟩
theorem rw_rep {k : Nat} {r : Rw} (hr : r.1 ≠ []) (h : rwFine k r) : ∀ n : Nat, rwFine k (repR n r)
  | 0 => rw_one
  | n + 1 => by rw [repR]; exact rw_glue (repR_ne n r) hr (rw_rep hr h n) h
mutual
theorem rwP_fine {k : Nat} {cl : Bool} : ∀ p : Part, Fine k cl p → p.dep ≤ 4 → rwFine k (rowP p)
  | .text z, h, _ => ⟨fun y hy => by rw [rowP] at hy; rw [List.mem_singleton.mp hy]; exact h.2, fun p hp => by rw [rowP] at hp; cases hp⟩
  | .loop f ps, h, hd => by
    obtain ⟨h1, h2, h3, h4, h5, h6⟩ := h
    have hd3 : depAll ps ≤ 3 := by
      have : depAll ps + 1 ≤ 4 := hd
      omega
    have ih := rwA_fine ps h6 hd3
    have hb := (row_big h6 h5 hd3).1
    rw [rowP]
    split
    · split
      · exact rw_one
      · rename_i ho hn
        refine ⟨fun z hz => ?_, fun p hp => ?_⟩
        · have : z = nilS := by simpa using hz
          rw [this]
          exact abc_nil
        · rw [List.mem_singleton.mp hp]
          refine ⟨hn, ?_, Nat.le_trans (first_le (rowA_ne ps)) hb, h1, ho, h2, h3⟩
          have hne := rowA_ne ps
          cases hU : (rowA ps).1 with
          | nil => exact absurd hU hne
          | cons u us => exact ih.1 u (by rw [hU]; exact List.mem_cons_self)
    · exact rw_rep (rowA_ne ps) ih _
theorem rwA_fine {k : Nat} {cl : Bool} : ∀ ps : List Part, FineAll k cl ps → depAll ps ≤ 3 → rwFine k (rowA ps)
  | [], _, _ => rw_one
  | p :: r, h, hd => by
    have hd : max p.dep (depAll r) ≤ 3 := hd
    rw [rowA]
    exact rw_glue (rowP_ne p) (rowA_ne r) (rwP_fine p h.1 (by omega)) (rwA_fine r h.2 (by omega))
end
theorem mem_tl {r : Rw} {z : Str} (h : z ∈ r.1) : z.length ≤ tl r := by
  unfold tl
  generalize r.1 = l at h
  induction l with
  | nil => cases h
  | cons x u ih =>
    rw [List.map_cons, List.sum_cons]
    rcases List.mem_cons.mp h with e | h
    · rw [e]; omega
    · have := ih h
      omega
theorem fine_dropLast {k : Nat} {cl : Bool} {ps : List Part} (h : FineAll k cl ps) : FineAll k cl ps.dropLast := FineAll_iff.mpr fun p hp => FineAll_iff.mp h p (List.dropLast_subset ps hp)
theorem dep_dropLast {d : Nat} {ps : List Part} (h : depAll ps ≤ d) : depAll ps.dropLast ≤ d := depAll_le.mpr fun p hp => depAll_le.mp h p (List.dropLast_subset ps hp)
section
variable {P : Program} {w : World} {K : PySem.W.Frag} {mg : Str → Option Value} {base : Heap}
def F_program : DF := fun as n Q => ∃ k m : Nat, as = [.dk, .d (.int k), .d (.int m)] ∧ k ≤ 3 ∧ n < 1000000 ∧ ∀ (ps : List Part) n', FineAll k false ps → ps.length ≤ 3 → depAll ps ≤ 3 → (rowA ps).2.length ≤ 12 → rsz (rowA ps) ≤ m → n ≤ n' → n' ≤ n + 1280 → Q (.tuple [progD k ps, rowD k (rowA ps)]) n'
theorem c_program (T : Txt K mg "_law_program" s__law_program P__law_program) (B : Blt mg) (C__law_parts : Cal P w K mg base "_law_parts" P__law_parts 7 (spD (F_parts 4))) (C__law_row : Cal P w K mg base "_law_row" P__law_row 5 (spD (F_row 4)))
    (C__law_size : Cal P w K mg base "_law_size" P__law_size 1 (spD F_size)) : Cal P w K mg base "_law_program" P__law_program 8 (spD F_program) := by
  refine T.def sc__law_program (fun as n Q h => by obtain ⟨k, m, rfl, _⟩ := h; rfl) (fun f cdv A o s H E hr hg => ⟨_, (b_cons (s_set (i := 3) sc__law_program.nd rfl (Or.inl rfl) (l_cal C__law_parts (hr.mono (by omega)) hg (by rfl) (a_cons (gv 0) (a_cons (gv 1) (a_cons (g_ l_int) (a_cons (g_ l_bl) a_nil))))))
  (b_cons (s_asgT (l_cal C__law_row (hr.mono (by omega)) hg (by rfl) (a_cons (gv 3) a_nil)) (k_lstT (n := 2) (K := K) (by rfl) (by rfl) (gs_cons (g_name (i := 4) sc__law_program.nd rfl (Or.inl rfl)) (gs_cons (g_name (i := 5) sc__law_program.nd rfl (Or.inl rfl)) gs_nil))))
  (b_cons (s_while PassesOwn.never (lw_or (lt_cmp c_gt (l_callB (kb_len (K := K) (by rfl)) (by rfl) B.len (by decide +kernel) (a_cons (gv 5) a_nil)) l_int (nomark _)) (lw_or1 (lt_cmp c_gt (l_cal C__law_size (hr.mono (by omega)) hg (by rfl) (a_cons (gv 4) (a_cons (gv 5) a_nil))) (lv 2) (nomark _)))).t (b_cons (s_set (i := 3) sc__law_program.nd rfl (Or.inl rfl) (k_sl (K := K) (by rfl) (lv 3) o_none (o_some (l_neg l_int))))
  (b_one (s_asgT (l_cal C__law_row (hr.mono (by omega)) hg (by rfl) (a_cons (gv 3) a_nil)) (k_lstT (n := 2) (K := K) (by rfl) (by rfl) (gs_cons (g_name (i := 4) sc__law_program.nd rfl (Or.inl rfl)) (gs_cons (g_name (i := 5) sc__law_program.nd rfl (Or.inl rfl)) gs_nil)))))))
  (b_one (s_ret (l_tup (a_cons (g_ (l_tup (a_cons (gv 1) (a_cons (gv 3) a_nil)))) (a_cons (g_ (l_tup (a_cons (gv 1) (a_cons (g_ (l_callT (kb_tuple (K := K) (by rfl)) (by rfl) B.tuple (by decide +kernel) (a_cons (gv 4) a_nil))) (a_cons (g_ (l_callT (kb_tuple (K := K) (by rfl)) (by rfl) B.tuple (by decide +kernel) (a_cons (gv 5) a_nil))) a_nil))))) a_nil))))))))⟩) (fun as n Q h => ?_)
  obtain ⟨k, m, rfl, hk, hn, hq⟩ := h
  simp only [dSeq, dRet]
  simp (config := { maxSteps := 1000000 }) only [dIsi, Kd.of, dSetA, dAsgTA, dAppA, dExt, dgLst, dParLL, qSum2_l, qSum2_t, unS_d, unS_own, unS_dk, unS_un, qLe2_i, qLe2_s, qAll_l, dExt2, dPar3, dFind3, dRevS, diEnum, dSeq, dSet, dSetL, dRet, dRetO, dRetL, dIfS, dNext, dApp, dSetIx, dVar, dC, dOp, dFn, dFnL, dCons, dNil, dArg, dArgV, onD, datas, dTup, dLst, dLstL, dOfL, dAddL, dMulL, dIf, dTest, dTru, dNot, dAnd, dOr, dNotV, dAndV, dOrV, dSl, dPart, dNoPart, dCall, dMt, qAdd_i, qAdd_s, qAdd_t, qAdd_l, qSub_i, qDiv_i, qMod_i, qPow_i, qMul_i, qMul_s, qMul_t, qMul_l, qLt_i, qLe_i, qGt_i, qGe_i, qIx_l, qIx_t, qIx_s, qSl_l, qSl_t, qSl_s, qLen_l, qLen_t, qLen_s, qInt_i, qInt_b, qMin_i, qMax_i, qTup_l, qTup_t, qLst_l, qLst_t, qTru_n, qTru_b, qTru_i, qTru_s, qTru_l, qTru_t, qSum_l, qAny_l, qAny_t, qJoin_l, qCount_s, qEq_e, qNe_e, qRepr_e, dAsgT, dNeg, qNeg_i, dgTup, dgCons, dgName, dgNil, dPar, diR1, diOwn, diSeq, diL, diZip, diZipM, diVar, dParL, startS, toS, List.map_cons, List.map_nil, List.length_cons, List.length_nil, List.replicate, List.cons_append, List.nil_append, List.append_nil, List.getElem?_cons_zero, List.getElem?_cons_succ, List.set_cons_zero, List.set_cons_succ, Nat.reduceSub, Nat.reduceAdd, wipeS, canD, if_true, if_false, ite_true, ite_false, Bool.false_eq_true, PyData.bool.injEq, exists_eq_left', exists_eq_left, shp_i, shp_s, shp_b, shp_n, shp_e, shp_z, eqv_tt, eqv_lt, eqv_i, true_and, ix0, ix1, ix2, Option.some.injEq, PyData.tuple.injEq, PyData.list.injEq, PyData.int.injEq, PyData.str.injEq, S.own.injEq]
  have hc3 : costP 3 = 1280 := rfl
  refine ⟨k, 3, false, rfl, hk, by decide, by decide, by omega, fun ps n' hf hl hd b1 b2 => ⟨.inr rfl, k, false, ps, rfl, hf, hl, by omega, hd, .inr rfl, _, rfl, rfl, rfl, ?_⟩⟩
  refine ⟨fun m' ss n3 => ∃ qs : List Part, m' = qs.length ∧ ss = [.dk, .d (.int k), .d (.int m), .d (.tuple (dataAll qs)), .d (.list (txD (rowA qs).1)), .d (.list (lpsD (rowA qs).2))] ∧ n3 = n' ∧ FineAll k false qs ∧ qs.length ≤ 3 ∧ depAll qs ≤ 3,
    ⟨_, ps, rfl, rfl, rfl, hf, hl, hd⟩, fun m' ss n3 ⟨qs, e1, e2, e3, g1, g2, g3⟩ => ?_⟩
  subst e1 e2 e3
  obtain ⟨b3, b4⟩ := row_big g1 g2 g3
  have b5 := rowA_len qs
  have b6 := rwA_fine qs g1 g3
  simp (config := { maxSteps := 1000000 }) only [dIsi, Kd.of, dSetA, dAsgTA, dAppA, dExt, dgLst, dParLL, qSum2_l, qSum2_t, unS_d, unS_own, unS_dk, unS_un, qLe2_i, qLe2_s, qAll_l, dExt2, dPar3, dFind3, dRevS, diEnum, dSeq, dSet, dSetL, dRet, dRetO, dRetL, dIfS, dNext, dApp, dSetIx, dVar, dC, dOp, dFn, dFnL, dCons, dNil, dArg, dArgV, onD, datas, dTup, dLst, dLstL, dOfL, dAddL, dMulL, dIf, dTest, dTru, dNot, dAnd, dOr, dNotV, dAndV, dOrV, dSl, dPart, dNoPart, dCall, dMt, qAdd_i, qAdd_s, qAdd_t, qAdd_l, qSub_i, qDiv_i, qMod_i, qPow_i, qMul_i, qMul_s, qMul_t, qMul_l, qLt_i, qLe_i, qGt_i, qGe_i, qIx_l, qIx_t, qIx_s, qSl_l, qSl_t, qSl_s, qLen_l, qLen_t, qLen_s, qInt_i, qInt_b, qMin_i, qMax_i, qTup_l, qTup_t, qLst_l, qLst_t, qTru_n, qTru_b, qTru_i, qTru_s, qTru_l, qTru_t, qSum_l, qAny_l, qAny_t, qJoin_l, qCount_s, qEq_e, qNe_e, qRepr_e, dAsgT, dNeg, qNeg_i, dgTup, dgCons, dgName, dgNil, dPar, diR1, diOwn, diSeq, diL, diZip, diZipM, diVar, dParL, startS, toS, List.map_cons, List.map_nil, List.length_cons, List.length_nil, List.replicate, List.cons_append, List.nil_append, List.append_nil, List.getElem?_cons_zero, List.getElem?_cons_succ, List.set_cons_zero, List.set_cons_succ, Nat.reduceSub, Nat.reduceAdd, wipeS, canD, if_true, if_false, ite_true, ite_false, Bool.false_eq_true, PyData.bool.injEq, exists_eq_left', exists_eq_left, shp_i, shp_s, shp_b, shp_n, shp_e, shp_z, eqv_tt, eqv_lt, eqv_i, true_and, ix0, ix1, ix2, Option.some.injEq, PyData.tuple.injEq, PyData.list.injEq, PyData.int.injEq, PyData.str.injEq, S.own.injEq]
  simp only [cut_last, dropLast_data]
  have hlt : qs ≠ [] → qs.dropLast.length < qs.length := fun h => by
    have := List.length_pos_iff.mpr h
    rw [List.length_dropLast]; omega
  have hle : qs.dropLast.length ≤ 3 := by rw [List.length_dropLast]; omega
  have hdl : depAll qs.dropLast < 4 := Nat.lt_succ_of_le (dep_dropLast g3)
  have hl2 : (lpsD (rowA qs).2).length = (rowA qs).2.length := List.length_map _
  have h0 : qs = [] → (rowA qs).2.length = 0 ∧ rsz (rowA qs) = 0 := fun h => by rw [h]; exact ⟨rfl, by decide⟩
  rw [hl2]
  by_cases h12 : ((rowA qs).2.length : Int) > 12
  · rw [if_pos (decide_eq_true h12)]
    have hne : qs ≠ [] := fun h => by have := (h0 h).1; omega
    exact ⟨.inr rfl, k, false, qs.dropLast, rfl, fine_dropLast g1, hle, hdl, dep_dropLast g3, .inr rfl, _, rfl, rfl, rfl, _, hlt hne, qs.dropLast, rfl, rfl, rfl, fine_dropLast g1, hle, dep_dropLast g3⟩
  · rw [if_neg (by rw [decide_eq_true_eq]; exact h12)]
    refine ⟨_, _, rfl, by omega, by omega, fun z hz => Nat.le_trans (mem_tl hz) (by omega), fun p hp => ?_, ?_⟩
    · obtain ⟨f1, f2, f3, f4, f5, f6, f7⟩ := b6.2 p hp
      exact ⟨by omega, (fun h => by rw [h] at f4; cases f4), f7⟩
    · show qGt (.int ((rsz (rowA qs) : Nat) : Int)) (.int m) _
      rw [qGt_i]
      refine ⟨_, rfl, ?_⟩
      by_cases hm : ((rsz (rowA qs) : Nat) : Int) > m
      · rw [if_pos (decide_eq_true hm)]
        have hne : qs ≠ [] := fun h => by have := (h0 h).2; omega
        exact ⟨.inr rfl, k, false, qs.dropLast, rfl, fine_dropLast g1, hle, hdl, dep_dropLast g3, .inr rfl, _, rfl, rfl, rfl, _, hlt hne, qs.dropLast, rfl, rfl, rfl, fine_dropLast g1, hle, dep_dropLast g3⟩
      · rw [if_neg (by rw [decide_eq_true_eq]; exact hm)]
        exact ⟨sz6 (by decide), sz6 (by decide), sz6 (by decide), hq qs _ g1 g2 g3 (by omega) (by omega) b1 (by omega)⟩
end
end Law

namespace Law
open PySem PySem.Spec PyProof.Rows L2 Ev
/-! ### texts cut -/
def lastC (z : Str) : Nat := z.cps.toList.getLastD 0
def firstC (z : Str) : Nat := z.cps.toList.headD 0
def chS (c : Nat) : Str := ⟨#[c]⟩
theorem nil_iff {z : Str} : z = nilS ↔ z.cps.toList = [] := ⟨fun h => by rw [h]; rfl, fun h => str_ext (by rw [h]; rfl)⟩
theorem len_pos {z : Str} (h : z ≠ nilS) : 1 ≤ z.length := by
  rw [str_len]
  exact List.length_pos_iff.mpr fun e => h (nil_iff.mpr e)
theorem sIx_m1 (n d : Nat) : HT.sIx n d (some (-1)) = n - 1 := by
  show (if ((-1 : Int) < 0) then ((-1 : Int) + (n : Int)).toNat else min ((-1 : Int)).toNat n) = _
  rw [if_pos (by decide)]
  omega
theorem cutS_list (z : Str) (lo hi : Option Int) : (cutS z lo hi).cps.toList = (z.cps.toList.drop (HT.sIx z.length 0 lo)).take (HT.sIx z.length z.length hi - HT.sIx z.length 0 lo) := by
  show (List.toArray _).toList = _
  rfl
theorem cut_to (z : Str) (i : Nat) : (cutS z none (some (i : Int))).cps.toList = z.cps.toList.take i := by
  rw [cutS_list, HT.sIx_none, HT.sIx_nat, List.drop_zero, Nat.sub_zero, str_len]
  by_cases h : i ≤ z.cps.toList.length
  · rw [Nat.min_eq_left h]
  · rw [Nat.min_eq_right (by omega), List.take_length, List.take_of_length_le (by omega)]
theorem cut_from (z : Str) (i : Nat) : (cutS z (some (i : Int)) none).cps.toList = z.cps.toList.drop i := by
  rw [cutS_list, HT.sIx_none, HT.sIx_nat, str_len]
  by_cases h : i ≤ z.cps.toList.length
  · rw [Nat.min_eq_left h, List.take_of_length_le (by rw [List.length_drop]; exact Nat.le_refl _)]
  · rw [Nat.min_eq_right (by omega), Nat.sub_self, List.take_zero, List.drop_of_length_le (by omega)]
theorem cut_last1 (z : Str) : (cutS z (some (-1)) none).cps.toList = z.cps.toList.drop (z.cps.toList.length - 1) := by
  rw [cutS_list, HT.sIx_none, sIx_m1, str_len, List.take_of_length_le (by rw [List.length_drop]; exact Nat.le_refl _)]
theorem cut_but1 (z : Str) : (cutS z none (some (-1))).cps.toList = z.cps.toList.dropLast := by
  rw [cutS_list, HT.sIx_none, sIx_m1, List.drop_zero, Nat.sub_zero, str_len, List.dropLast_eq_take]
theorem last_split {l : List Nat} (h : l ≠ []) : l = l.dropLast ++ [l.getLastD 0] := by
  obtain ⟨i, x, rfl⟩ := snoc_of h
  simp
theorem left_iff (z : Str) (c : Nat) : cutS z (some (-1)) none = chS c ↔ z ≠ nilS ∧ lastC z = c := by
  have e1 : (chS c).cps.toList = [c] := rfl
  constructor
  · intro h
    have h2 := congrArg (fun s => s.cps.toList) h
    rw [cut_last1, e1] at h2
    have hz : z.cps.toList ≠ [] := fun e => by rw [e] at h2; cases h2
    refine ⟨fun e => hz (nil_iff.mp e), ?_⟩
    have e2 := last_split hz
    unfold lastC
    generalize z.cps.toList.getLastD 0 = x at *
    rw [e2] at h2
    simp at h2
    exact h2
  · rintro ⟨h1, rfl⟩
    refine str_ext ?_
    rw [cut_last1]
    have hz : z.cps.toList ≠ [] := fun e => h1 (nil_iff.mpr e)
    have e2 := last_split hz
    show _ = [lastC z]
    unfold lastC
    generalize z.cps.toList.getLastD 0 = x at *
    rw [e2]
    simp
/-! ### roots -/
def isRt (w : Str) (m : Nat) : Bool := decide (srep (cutS w none (some ((w.length / m : Nat) : Int))) m = w)
def rootS (w : Str) : Str := cutS w none (some (Txt.find3 (w ++ w) w 1))
theorem rt_iff {w : Str} {m : Nat} : isRt w m = true ↔ rp (w.cps.toList.take (w.length / m)) m = w.cps.toList := by
  unfold isRt
  rw [decide_eq_true_eq]
  constructor
  · intro h
    have h2 := congrArg (fun s => s.cps.toList) h
    rw [srep_list, cut_to] at h2
    exact h2
  · intro h
    refine str_ext ?_
    rw [srep_list, cut_to]
    exact h
theorem double_at {w : Str} {i : Nat} (h : i ≤ w.length) : PySem.Builtin.Str.subAt (w ++ w) w i = true ↔ w.cps.toList.drop i ++ w.cps.toList.take i = w.cps.toList := by
  rw [Occ.subAt_list, app_list, str_len]
  rw [str_len] at h
  rw [List.drop_append_of_le_length h, List.take_append, List.length_drop, List.take_of_length_le (by rw [List.length_drop]; omega), show w.cps.toList.length - (w.cps.toList.length - i) = i by omega]
theorem root_find {w : Str} (h : w ≠ nilS) : ∃ p : Nat, Txt.find3 (w ++ w) w 1 = (p : Int) ∧ 1 ≤ p ∧ p ≤ w.length ∧ (w.cps.toList.drop p ++ w.cps.toList.take p = w.cps.toList) ∧ ∀ i, 1 ≤ i → i < p → ¬ (w.cps.toList.drop i ++ w.cps.toList.take i = w.cps.toList) := by
  have hl := len_pos h
  have h2 : (w ++ w).length = w.length + w.length := app_len w w
  rw [Occ.find1 _ _ (by omega)]
  have hL : PySem.Builtin.Str.subAt (w ++ w) w w.length = true := (double_at (Nat.le_refl _)).mpr (by rw [str_len, List.drop_length, List.take_length, List.nil_append])
  cases hf : (List.range' 1 (w ++ w).length).find? fun i => decide (i + w.length ≤ (w ++ w).length) && PySem.Builtin.Str.subAt (w ++ w) w i with
  | none =>
    have := List.find?_eq_none.mp hf w.length (List.mem_range'.mpr ⟨w.length - 1, by omega, by omega⟩)
    rw [hL, decide_eq_true (by omega)] at this
    exact absurd rfl this
  | some p =>
    obtain ⟨hp, as, bs, e, hmin⟩ := List.find?_eq_some_iff_append.mp hf
    rw [Bool.and_eq_true, decide_eq_true_eq] at hp
    have hpm : p ∈ List.range' 1 (w ++ w).length := List.mem_of_find?_eq_some hf
    obtain ⟨q, hq, eq⟩ := List.mem_range'.mp hpm
    refine ⟨p, rfl, by omega, by omega, (double_at (by omega)).mp hp.2, fun i h1 h3 h4 => ?_⟩
    have hi : i ∈ List.range' 1 (w ++ w).length := List.mem_range'.mpr ⟨i - 1, by omega, by omega⟩
    have hpw : (List.range' 1 (w ++ w).length).Pairwise (· < ·) := List.pairwise_lt_range'
    rw [e] at hi hpw
    have hia : i ∈ as := by
      rcases List.mem_append.mp hi with z | z
      · exact z
      · exfalso
        rcases List.mem_cons.mp z with z | z
        · omega
        · have := (List.pairwise_cons.mp (List.pairwise_append.mp hpw).2.1).1 i z
          omega
    have := hmin i hia
    rw [(double_at (by omega)).mpr h4, decide_eq_true (by omega)] at this
    cases this
theorem root_iff {w : Str} (h : w ≠ nilS) : rootS w = w ↔ ∀ m, 2 ≤ m → m ≤ w.length → isRt w m = false := by
  obtain ⟨p, e, h1, h2, h3, h4⟩ := root_find h
  have er : (rootS w).cps.toList = w.cps.toList.take p := by unfold rootS; rw [e, cut_to]
  constructor
  · intro hr m hm1 hm2
    have hp : p = w.length := by
      have := congrArg (fun s => s.cps.toList.length) hr
      simp only [er, List.length_take] at this
      rw [str_len] at h2 ⊢
      omega
    cases hi : isRt w m with
    | false => rfl
    | true =>
      exfalso
      have hm := rt_iff.mp hi
      have hz : w.cps.toList.take (w.length / m) ≠ [] := fun z => by
        have : 1 ≤ w.length / m := Nat.div_pos hm2 (by omega)
        have h5 := congrArg List.length z
        rw [List.length_take, ← str_len] at h5
        simp at h5
        omega
      obtain ⟨a, b, c⟩ := rot_pow hm1 hm.symm hz
      exact h4 _ a (by rw [hp, str_len]; exact b) c
  · intro hall
    have hp : p = w.length := Nat.le_antisymm h2 (Nat.le_of_not_lt fun hlt => by
      obtain ⟨z, n, hn, hw⟩ := prim_rot (w := w.cps.toList) (p := p) h1 (by rw [← str_len]; exact hlt) h3
      have hz : z ≠ [] := fun e => by
        rw [e] at hw
        have : rp ([] : List Nat) n = [] := by unfold rp; simp
        rw [this] at hw
        exact h (nil_iff.mpr hw)
      have hl : w.length = n * z.length := by rw [str_len, hw, rp_len]
      have h1z : 1 ≤ z.length := List.length_pos_iff.mpr hz
      have hn2 : n ≤ w.length := by rw [hl]; exact Nat.le_mul_of_pos_right _ h1z
      have hq : w.length / n = z.length := by rw [hl]; exact Nat.mul_div_cancel_left _ (by omega)
      have := hall n hn hn2
      rw [show isRt w n = true from rt_iff.mpr (by
        rw [hq, hw]
        obtain ⟨m, rfl⟩ : ∃ m, n = m + 1 := ⟨n - 1, by omega⟩
        rw [show List.take z.length (rp z (m + 1)) = z by rw [rp_succ, List.take_left]])] at this
      cases this)
    refine str_ext ?_
    rw [er, hp, str_len, List.take_length]
end Law

namespace Law
open PySem PySem.Spec PyProof.Rows L2 Ev
/-! ### is_plain -/
def tx (r : Rw) (j : Nat) : Str := r.1.getD j nilS
def lw (r : Rw) (j : Nat) : Str := (r.2.getD j (nilS, [])).1
def lf (r : Rw) (j : Nat) : List Nat := (r.2.getD j (nilS, [])).2
def Rk (k B : Nat) (r : Rw) : Prop := r.1.length = r.2.length + 1 ∧ r.2.length ≤ 40 ∧ (∀ z ∈ r.1, abc z ∧ z.length ≤ B) ∧ ∀ p ∈ r.2, p.1 ≠ nilS ∧ abc p.1 ∧ p.1.length ≤ B ∧ p.2.length = k + 1 ∧ isOpen p.2 = true ∧ ∀ x ∈ p.2, x ≤ 10 ^ 15
theorem Rk.tx {k B : Nat} {r : Rw} (h : Rk k B r) (j : Nat) : abc (tx r j) ∧ (tx r j).length ≤ B := by
  unfold Law.tx
  rw [List.getD_eq_getElem?_getD]
  cases hj : r.1[j]? with
  | none => exact ⟨abc_nil, Nat.zero_le _⟩
  | some z => exact h.2.2.1 z (List.mem_of_getElem? hj)
theorem Rk.mem {k B : Nat} {r : Rw} (h : Rk k B r) {j : Nat} (hj : j < r.2.length) : (lw r j, lf r j) ∈ r.2 := by
  unfold lw lf
  rw [List.getD_eq_getElem?_getD, List.getElem?_eq_getElem hj]
  exact List.getElem_mem hj
theorem Rk.lp {k B : Nat} {r : Rw} (h : Rk k B r) {j : Nat} (hj : j < r.2.length) : lw r j ≠ nilS ∧ abc (lw r j) ∧ (lw r j).length ≤ B ∧ (lf r j).length = k + 1 ∧ isOpen (lf r j) = true ∧ ∀ x ∈ lf r j, x ≤ 10 ^ 15 := h.2.2.2 _ (h.mem hj)
theorem at_tx {r : Rw} {j : Nat} (hj : j < r.1.length) : atI (txD r.1) (j : Int) = some (.str (tx r j)) := by
  rw [atI_ofNat]
  unfold txD tx
  rw [List.getElem?_map, List.getD_eq_getElem?_getD, List.getElem?_eq_getElem hj]
  rfl
theorem at_lp {r : Rw} {j : Nat} (hj : j < r.2.length) : atI (lpsD r.2) (j : Int) = some (.tuple [.str (lw r j), fmD (lf r j)]) := by
  rw [atI_ofNat]
  unfold lpsD lw lf
  rw [List.getElem?_map, List.getD_eq_getElem?_getD, List.getElem?_eq_getElem hj]
  rfl
theorem get_lp {r : Rw} {j : Nat} {d : PyData} (h : (lpsD r.2)[j]? = some d) : j < r.2.length ∧ d = .tuple [.str (lw r j), fmD (lf r j)] := by
  unfold lpsD at h
  rw [List.getElem?_map] at h
  obtain ⟨p, hp, rfl⟩ := Option.map_eq_some_iff.mp h
  refine ⟨(List.getElem?_eq_some_iff.mp hp).1, ?_⟩
  unfold lw lf
  rw [List.getD_eq_getElem?_getD, hp]
  rfl
theorem f0_at {k : Nat} {f : List Nat} (h : f.length = k + 1) : atI (fI f) 0 = some (.int (f.headD 0 : Nat)) := by
  cases f with
  | nil => cases h
  | cons a r => exact atI_zero
theorem last_at {z : Str} (h : z ≠ nilS) : atI z.cps.toList (-1) = some (lastC z) := by
  have hz : z.cps.toList ≠ [] := fun e => h (nil_iff.mpr e)
  have e := last_split hz
  unfold lastC
  generalize z.cps.toList.getLastD 0 = x at *
  rw [e]
  unfold atI ixN
  rw [List.length_append, if_neg (by decide), if_pos (by simp; omega)]
  show (z.cps.toList.dropLast ++ [x])[((-1 : Int) + ((z.cps.toList.dropLast.length + [x].length : Nat) : Int)).toNat]? = some x
  rw [show ((-1 : Int) + ((z.cps.toList.dropLast.length + [x].length : Nat) : Int)).toNat = z.cps.toList.dropLast.length by rw [List.length_singleton]; omega]
  simp
def plAt (r : Rw) (j : Nat) : Bool := decide (rootS (lw r j) = lw r j) && decide ((lf r j).headD 0 = 0) && !(decide (tx r j ≠ nilS) && decide (lastC (tx r j) = lastC (lw r j))) && !(decide (0 < j) && decide (tx r j = nilS) && decide (lw r (j - 1) = lw r j))
def plainB (r : Rw) : Bool := (List.range r.2.length).all (plAt r)
section
variable {P : Program} {w : World} {K : PySem.W.Frag} {mg : Str → Option Value} {base : Heap}
def F_root : DF := fun as n Q => ∃ z : Str, as = [.d (.str z)] ∧ z ≠ nilS ∧ z.length ≤ 100000 ∧ Q (.str (rootS z)) n
theorem c_root_of (T : Txt K mg "root_of" s_root_of P_root_of) (B : Blt mg) : Cal P w K mg base "root_of" P_root_of 1 (spD F_root) := by
  refine T.def sc_root_of (fun as n Q h => by obtain ⟨z, rfl, _⟩ := h; rfl) (fun f cdv A o s H E hr hg => ⟨_, (b_one (s_ret (k_sl (K := K) (by rfl) (lv 0) o_none (o_some (l_find3 (K := K) (by rfl) (k_add (K := K) (by rfl) (lv 0) (lv 0)) (lv 0) l_int)))))⟩) (fun as n Q h => ?_)
  obtain ⟨z, rfl, h0, hz, hq⟩ := h
  simp (config := { maxSteps := 1000000 }) only [dIsi, Kd.of, dSetA, dAsgTA, dAppA, dExt, dgLst, dParLL, qSum2_l, qSum2_t, unS_d, unS_own, unS_dk, unS_un, qLe2_i, qLe2_s, qAll_l, dExt2, dPar3, dFind3, dRevS, diEnum, dSeq, dSet, dSetL, dRet, dRetO, dRetL, dIfS, dNext, dApp, dSetIx, dVar, dC, dOp, dFn, dFnL, dCons, dNil, dArg, dArgV, onD, datas, dTup, dLst, dLstL, dOfL, dAddL, dMulL, dIf, dTest, dTru, dNot, dAnd, dOr, dNotV, dAndV, dOrV, dSl, dPart, dNoPart, dCall, dMt, qAdd_i, qAdd_s, qAdd_t, qAdd_l, qSub_i, qDiv_i, qMod_i, qPow_i, qMul_i, qMul_s, qMul_t, qMul_l, qLt_i, qLe_i, qGt_i, qGe_i, qIx_l, qIx_t, qIx_s, qSl_l, qSl_t, qSl_s, qLen_l, qLen_t, qLen_s, qInt_i, qInt_b, qMin_i, qMax_i, qTup_l, qTup_t, qLst_l, qLst_t, qTru_n, qTru_b, qTru_i, qTru_s, qTru_l, qTru_t, qSum_l, qAny_l, qAny_t, qJoin_l, qCount_s, qEq_e, qNe_e, qRepr_e, dAsgT, dNeg, qNeg_i, dgTup, dgCons, dgName, dgNil, dPar, diR1, diOwn, diSeq, diL, diZip, diZipM, diVar, dParL, startS, toS, List.map_cons, List.map_nil, List.length_cons, List.length_nil, List.replicate, List.cons_append, List.nil_append, List.append_nil, List.getElem?_cons_zero, List.getElem?_cons_succ, List.set_cons_zero, List.set_cons_succ, Nat.reduceSub, Nat.reduceAdd, wipeS, canD, if_true, if_false, ite_true, ite_false, Bool.false_eq_true, PyData.bool.injEq, exists_eq_left', exists_eq_left, shp_i, shp_s, shp_b, shp_n, shp_e, shp_z, eqv_tt, eqv_lt, eqv_i, true_and, ix0, ix1, ix2, Option.some.injEq, PyData.tuple.injEq, PyData.list.injEq, PyData.int.injEq, PyData.str.injEq, S.own.injEq]
  exact ⟨sz6 (by omega), sz6 (by omega), hq⟩
def F_ispl : DF := fun as n Q => ∃ (k B : Nat) (r : Rw), as = [.d (rowD k r)] ∧ Rk k B r ∧ B ≤ 100000 ∧ Q (.bool (plainB r)) n
theorem c_is_plain (T : Txt K mg "is_plain" s_is_plain P_is_plain) (B : Blt mg) (C_root_of : Cal P w K mg base "root_of" P_root_of 1 (spD F_root)) : Cal P w K mg base "is_plain" P_is_plain 2 (spD F_ispl) := by
  refine T.def sc_is_plain (fun as n Q h => by obtain ⟨k, b, r, rfl, _⟩ := h; rfl) (fun f cdv A o s H E hr hg => ⟨_, (b_cons (s_asgT (lv 0) (k_tup (n := 3) (K := K) (by rfl) (by rfl) (gs_cons (g_name (i := 1) sc_is_plain.nd rfl (Or.inl rfl)) (gs_cons (g_name (i := 2) sc_is_plain.nd rfl (Or.inl rfl)) (gs_cons (g_name (i := 3) sc_is_plain.nd rfl (Or.inl rfl)) gs_nil)))))
  (b_cons (s_for PassesOwn.never rfl (k_enum (K := K) (by rfl) (by rfl) B.enumerate (a_cons (gv 3) a_nil)) (k_tup (n := 2) (K := K) (by rfl) (by rfl) (gs_cons (g_name (i := 4) sc_is_plain.nd rfl (Or.inl rfl)) (gs_cons (k_tup (n := 2) (K := K) (by rfl) (by rfl) (gs_cons (g_name (i := 5) sc_is_plain.nd rfl (Or.inl rfl)) (gs_cons (g_name (i := 6) sc_is_plain.nd rfl (Or.inl rfl)) gs_nil))) gs_nil))) (b_cons (s_set (i := 7) sc_is_plain.nd rfl (Or.inl rfl) (k_ix (K := K) (by rfl) (lv 2) (lv 4)))
  (b_cons (s_if (lw_or (lt_cmp (k_ne (K := K) (by rfl) hr.units) (l_cal C_root_of (hr.mono (by omega)) hg (by rfl) (a_cons (gv 5) a_nil)) (lv 5) (nomark _)) (lw_or1 (lt_cmp (k_ne (K := K) (by rfl) hr.units) (k_ix (K := K) (by rfl) (lv 6) l_int) l_int (nomark _)))).t (b_one (s_ret l_bl)) b_nil)
  (b_cons (s_if (lw_and (lt_cmp (k_ne (K := K) (by rfl) hr.units) (lv 7) l_str (nomark _)) (lw_and1 (lt_cmp (k_eq (K := K) (by rfl) hr.units) (k_ix (K := K) (by rfl) (lv 7) (l_neg l_int)) (k_ix (K := K) (by rfl) (lv 5) (l_neg l_int)) (nomark _)))).t (b_one (s_ret l_bl)) b_nil)
  (b_one (s_if (lw_and (lt_cmp c_gt (lv 4) l_int (nomark _)) (lw_and (lt_cmp (k_eq (K := K) (by rfl) hr.units) (lv 7) l_str (nomark _)) (lw_and1 (lt_cmp (k_eq (K := K) (by rfl) hr.units) (k_ix (K := K) (by rfl) (k_ix (K := K) (by rfl) (lv 3) (l_sub (lv 4) l_int)) l_int) (lv 5) (nomark _))))).t (b_one (s_ret l_bl)) b_nil))))))
  (b_one (s_ret l_bl))))⟩) (fun as n Q h => ?_)
  obtain ⟨k, b, r, rfl, hr, hb, hq⟩ := h
  simp only [rowD, dSeq, dRet]
  simp (config := { maxSteps := 1000000 }) only [dIsi, Kd.of, dSetA, dAsgTA, dAppA, dExt, dgLst, dParLL, qSum2_l, qSum2_t, unS_d, unS_own, unS_dk, unS_un, qLe2_i, qLe2_s, qAll_l, dExt2, dPar3, dFind3, dRevS, diEnum, dSeq, dSet, dSetL, dRet, dRetO, dRetL, dIfS, dNext, dApp, dSetIx, dVar, dC, dOp, dFn, dFnL, dCons, dNil, dArg, dArgV, onD, datas, dTup, dLst, dLstL, dOfL, dAddL, dMulL, dIf, dTest, dTru, dNot, dAnd, dOr, dNotV, dAndV, dOrV, dSl, dPart, dNoPart, dCall, dMt, qAdd_i, qAdd_s, qAdd_t, qAdd_l, qSub_i, qDiv_i, qMod_i, qPow_i, qMul_i, qMul_s, qMul_t, qMul_l, qLt_i, qLe_i, qGt_i, qGe_i, qIx_l, qIx_t, qIx_s, qSl_l, qSl_t, qSl_s, qLen_l, qLen_t, qLen_s, qInt_i, qInt_b, qMin_i, qMax_i, qTup_l, qTup_t, qLst_l, qLst_t, qTru_n, qTru_b, qTru_i, qTru_s, qTru_l, qTru_t, qSum_l, qAny_l, qAny_t, qJoin_l, qCount_s, qEq_e, qNe_e, qRepr_e, dAsgT, dNeg, qNeg_i, dgTup, dgCons, dgName, dgNil, dPar, diR1, diOwn, diSeq, diL, diZip, diZipM, diVar, dParL, startS, toS, List.map_cons, List.map_nil, List.length_cons, List.length_nil, List.replicate, List.cons_append, List.nil_append, List.append_nil, List.getElem?_cons_zero, List.getElem?_cons_succ, List.set_cons_zero, List.set_cons_succ, Nat.reduceSub, Nat.reduceAdd, wipeS, canD, if_true, if_false, ite_true, ite_false, Bool.false_eq_true, PyData.bool.injEq, exists_eq_left', exists_eq_left, shp_i, shp_s, shp_b, shp_n, shp_e, shp_z, eqv_tt, eqv_lt, eqv_i, true_and, ix0, ix1, ix2, Option.some.injEq, PyData.tuple.injEq, PyData.list.injEq, PyData.int.injEq, PyData.str.injEq, S.own.injEq]
  refine ⟨.inr rfl, _, rfl, .inr rfl, .inr ⟨_, rfl, fun i ss n' => ∃ s4 s5 s6 s7, noOwn [s4, s5, s6, s7] = true ∧ ss = [.d (.tuple [.int k, .tuple (txD r.1), .tuple (lpsD r.2)]), .d (.int k), .d (.tuple (txD r.1)), .d (.tuple (lpsD r.2)), s4, s5, s6, s7] ∧ n' = n ∧ (List.range i).all (plAt r) = true,
    ⟨.un, .un, .un, .un, rfl, rfl, rfl, rfl⟩, fun i d ss n' hd ⟨s4, s5, s6, s7, ho, e1, e2, e3⟩ => ?_, fun ss n' ⟨s4, s5, s6, s7, ho, e1, e2, e3⟩ => ?_⟩⟩
  · subst e1 e2
    rw [enumD_get] at hd
    obtain ⟨x, hx, rfl⟩ := Option.map_eq_some_iff.mp hd
    obtain ⟨hi, rfl⟩ := get_lp hx
    obtain ⟨w1, w2, w3, w4, w5, w6⟩ := hr.lp hi
    have hi1 : i < r.1.length := by rw [hr.1]; omega
    have t2 := (hr.tx i).2
    have bad : plAt r i = false → Q (.bool false) n' := fun h => by
      have e : plainB r = false := by
        unfold plainB
        rw [Bool.eq_false_iff]
        intro hall
        rw [List.all_eq_true] at hall
        rw [hall i (List.mem_range.mpr hi)] at h
        cases h
      rw [e] at hq
      exact hq
    have good : plAt r i = true → (List.range (i + 1)).all (plAt r) = true := fun h => by
      rw [List.range_succ, List.all_append, e3]
      simp [h]
    obtain ⟨o4, o5, o6, o7⟩ : isOwn s4 = false ∧ isOwn s5 = false ∧ isOwn s6 = false ∧ isOwn s7 = false := by simpa [noOwn] using ho
    simp (config := { maxSteps := 1000000 }) only [dIsi, Kd.of, dSetA, dAsgTA, dAppA, dExt, dgLst, dParLL, qSum2_l, qSum2_t, unS_d, unS_own, unS_dk, unS_un, qLe2_i, qLe2_s, qAll_l, dExt2, dPar3, dFind3, dRevS, diEnum, dSeq, dSet, dSetL, dRet, dRetO, dRetL, dIfS, dNext, dApp, dSetIx, dVar, dC, dOp, dFn, dFnL, dCons, dNil, dArg, dArgV, onD, datas, dTup, dLst, dLstL, dOfL, dAddL, dMulL, dIf, dTest, dTru, dNot, dAnd, dOr, dNotV, dAndV, dOrV, dSl, dPart, dNoPart, dCall, dMt, qAdd_i, qAdd_s, qAdd_t, qAdd_l, qSub_i, qDiv_i, qMod_i, qPow_i, qMul_i, qMul_s, qMul_t, qMul_l, qLt_i, qLe_i, qGt_i, qGe_i, qIx_l, qIx_t, qIx_s, qSl_l, qSl_t, qSl_s, qLen_l, qLen_t, qLen_s, qInt_i, qInt_b, qMin_i, qMax_i, qTup_l, qTup_t, qLst_l, qLst_t, qTru_n, qTru_b, qTru_i, qTru_s, qTru_l, qTru_t, qSum_l, qAny_l, qAny_t, qJoin_l, qCount_s, qEq_e, qNe_e, qRepr_e, dAsgT, dNeg, qNeg_i, dgTup, dgCons, dgName, dgNil, dPar, diR1, diOwn, diSeq, diL, diZip, diZipM, diVar, dParL, startS, toS, List.map_cons, List.map_nil, List.length_cons, List.length_nil, List.replicate, List.cons_append, List.nil_append, List.append_nil, List.getElem?_cons_zero, List.getElem?_cons_succ, List.set_cons_zero, List.set_cons_succ, Nat.reduceSub, Nat.reduceAdd, wipeS, canD, if_true, if_false, ite_true, ite_false, Bool.false_eq_true, PyData.bool.injEq, exists_eq_left', exists_eq_left, shp_i, shp_s, shp_b, shp_n, shp_e, shp_z, eqv_tt, eqv_lt, eqv_i, true_and, ix0, ix1, ix2, Option.some.injEq, PyData.tuple.injEq, PyData.list.injEq, PyData.int.injEq, PyData.str.injEq, S.own.injEq]
    refine ⟨_, at_tx hi1, .inl rfl, lw r i, rfl, w1, by omega, rfl, ?_⟩
    rw [eqv_s]
    by_cases h1 : rootS (lw r i) = lw r i
    · rw [if_neg (by rw [decide_eq_true h1]; decide)]
      refine ⟨_, f0_at w4, rfl, ?_⟩
      rw [eqv_i]
      by_cases h2 : (lf r i).headD 0 = 0
      · rw [if_neg (by rw [decide_eq_true (by omega)]; decide)]
        refine ⟨rfl, ?_⟩
        rw [eqv_s]
        have e1 : plAt r i = (!(decide (tx r i ≠ nilS) && decide (lastC (tx r i) = lastC (lw r i))) && !(decide (0 < i) && decide (tx r i = nilS) && decide (lw r (i - 1) = lw r i))) := by
          unfold plAt
          rw [decide_eq_true h1, decide_eq_true h2]
          rfl
        by_cases h3 : tx r i = nilS
        · rw [if_neg (by rw [decide_eq_true (show tx r i = Str.ofString "" from h3)]; decide)]
          rw [h3] at e1
          by_cases h4 : 0 < i
          · rw [if_pos (by rw [decide_eq_true_eq]; omega)]
            have hi2 : i - 1 < r.2.length := by omega
            have ei : ((i : Int) - 1) = ((i - 1 : Nat) : Int) := by omega
            refine ⟨rfl, ?_⟩
            rw [if_pos (decide_eq_true (show tx r i = Str.ofString "" from h3)), ei]
            refine ⟨_, at_lp hi2, _, ix0, rfl, ?_⟩
            rw [eqv_s]
            by_cases h5 : lw r (i - 1) = lw r i
            · rw [if_pos (decide_eq_true h5)]
              exact bad (by rw [e1, decide_eq_true h4, decide_eq_true h5]; simp)
            · rw [if_neg (by rw [decide_eq_true_eq]; exact h5)]
              exact ⟨_, _, _, _, rfl, rfl, rfl, good (by rw [e1, decide_eq_false h5]; simp)⟩
          · rw [if_neg (by rw [decide_eq_true_eq]; omega)]
            exact ⟨_, _, _, _, rfl, rfl, rfl, good (by rw [e1, decide_eq_false h4]; simp)⟩
        · rw [if_pos (by rw [decide_eq_false (show ¬ tx r i = Str.ofString "" from h3)]; rfl)]
          refine ⟨sz6 (by omega), _, last_at h3, sz6 (by omega), _, last_at w1, rfl, ?_⟩
          rw [eqv_s]
          have ec : ∀ a b : Nat, decide ((⟨#[a]⟩ : Str) = ⟨#[b]⟩) = decide (a = b) := fun a b => decide_eq_decide.mpr ⟨fun h => by cases h; rfl, fun h => by rw [h]⟩
          rw [ec]
          by_cases h5 : lastC (tx r i) = lastC (lw r i)
          · rw [if_pos (decide_eq_true h5)]
            exact bad (by rw [e1, decide_eq_true h5]; simp [h3])
          · rw [if_neg (by rw [decide_eq_true_eq]; exact h5)]
            have e2 : plAt r i = true := by rw [e1, decide_eq_false h5, decide_eq_false h3]; simp
            by_cases h4 : 0 < i
            · rw [if_pos (by rw [decide_eq_true_eq]; omega)]
              refine ⟨rfl, ?_⟩
              rw [if_neg (by rw [decide_eq_true_eq]; exact h3)]
              exact ⟨_, _, _, _, rfl, rfl, rfl, good e2⟩
            · rw [if_neg (by rw [decide_eq_true_eq]; omega)]
              exact ⟨_, _, _, _, rfl, rfl, rfl, good e2⟩
      · rw [if_pos (by rw [decide_eq_false (by omega)]; rfl)]
        exact bad (by unfold plAt; rw [decide_eq_false h2]; simp)
    · rw [if_pos (by rw [decide_eq_false h1]; rfl)]
      exact bad (by unfold plAt; rw [decide_eq_false h1]; rfl)
  · subst e1 e2
    have el : (enumD (lpsD r.2)).length = r.2.length := by rw [enumD_len]; exact List.length_map _
    rw [el] at e3
    rw [show plainB r = true from e3] at hq
    exact hq
end
end Law

namespace Law
open PySem PySem.Spec PyProof.Rows L2 Ev
/-! ### moves -/
inductive Mv where
  | left (j : Nat) | right (j : Nat) | out (j : Nat) | inn (j : Nat) | join (j : Nat)
  | root (j n : Nat) | whole (j n : Nat) | part (j : Nat) (f : List Nat)
def Mv.data : Mv → PyData
  | .left j => .tuple [.str (Str.ofString "left"), .int (j : Nat)]
  | .right j => .tuple [.str (Str.ofString "right"), .int (j : Nat)]
  | .out j => .tuple [.str (Str.ofString "out"), .int (j : Nat)]
  | .inn j => .tuple [.str (Str.ofString "in"), .int (j : Nat)]
  | .join j => .tuple [.str (Str.ofString "join"), .int (j : Nat)]
  | .root j n => .tuple [.str (Str.ofString "root"), .int (j : Nat), .int (n : Nat)]
  | .whole j n => .tuple [.str (Str.ofString "whole"), .int (j : Nat), .int (n : Nat)]
  | .part j f => .tuple [.str (Str.ofString "part"), .int (j : Nat), fmD f]
theorem NL_mv (m : Mv) : NL m.data = true := by cases m <;> simp [Mv.data, NL, NLA, NL_fm]
def mvsD (ms : List Mv) : List PyData := ms.map Mv.data
theorem NLA_mvs (ms : List Mv) : NLA (mvsD ms) = true := NLA_map fun m _ => NL_mv m
/-- what makes a row plainer -/
def rootsAt (r : Rw) (j : Nat) (n : Nat) : List Mv := ((List.range' 2 n).filter (isRt (lw r j))).map (Mv.root j)
def leftB (r : Rw) (j : Nat) : Bool := decide (cutS (tx r j) (some (-1)) none = chS (lastC (lw r j)))
def joinB (r : Rw) (j : Nat) : Bool := decide (j + 1 < r.2.length) && (decide (tx r (j + 1) = nilS) && decide (lw r (j + 1) = lw r j))
def cutsAt (r : Rw) (j : Nat) : List Mv := rootsAt r j ((lw r j).length - 1) ++ (if 0 < (lf r j).headD 0 then [.out j] else []) ++ (if leftB r j = true then [.left j] else []) ++ (if joinB r j = true then [.join j] else [])
def cutsTo (r : Rw) (i : Nat) : List Mv := ((List.range i).map (cutsAt r)).flatten
def cuts (r : Rw) : List Mv := cutsTo r r.2.length
theorem cuts_succ (r : Rw) (i : Nat) : cutsTo r (i + 1) = cutsTo r i ++ cutsAt r i := by
  unfold cutsTo
  rw [List.range_succ, List.map_append, List.flatten_append]
  simp
theorem cutsAt_len {k B : Nat} {r : Rw} (h : Rk k B r) {j : Nat} (hj : j < r.2.length) : (cutsAt r j).length ≤ B + 3 := by
  obtain ⟨w1, w2, w3, w4, w5, w6⟩ := h.lp hj
  have h1 : (rootsAt r j ((lw r j).length - 1)).length ≤ B := by
    unfold rootsAt
    rw [List.length_map]
    exact Nat.le_trans (List.length_filter_le _ _) (by rw [List.length_range']; omega)
  unfold cutsAt
  rw [List.length_append, List.length_append, List.length_append]
  have h2 : (if 0 < (lf r j).headD 0 then [Mv.out j] else []).length ≤ 1 := by split <;> simp
  have h3 : (if leftB r j = true then [Mv.left j] else []).length ≤ 1 := by split <;> simp
  have h4 : (if joinB r j = true then [Mv.join j] else []).length ≤ 1 := by split <;> simp
  omega
theorem cutsTo_len {k B : Nat} {r : Rw} (h : Rk k B r) : ∀ i, i ≤ r.2.length → (cutsTo r i).length ≤ i * (B + 3)
  | 0, _ => by simp [cutsTo]
  | i + 1, hi => by
    have := cutsTo_len h i (by omega)
    have := cutsAt_len h (j := i) (by omega)
    rw [cuts_succ, List.length_append, Nat.succ_mul]
    omega
theorem at_nil {r : Rw} {j : Nat} (h : cutsAt r j = []) : rootsAt r j ((lw r j).length - 1) = [] ∧ ¬ 0 < (lf r j).headD 0 ∧ leftB r j = false ∧ joinB r j = false := by
  unfold cutsAt at h
  simp only [List.append_eq_nil_iff] at h
  obtain ⟨⟨⟨h1, h2⟩, h3⟩, h4⟩ := h
  refine ⟨h1, fun z => ?_, ?_, ?_⟩
  · rw [if_pos z] at h2; cases h2
  · cases hl : leftB r j with
    | false => rfl
    | true => rw [if_pos hl] at h3; cases h3
  · cases hl : joinB r j with
    | false => rfl
    | true => rw [if_pos hl] at h4; cases h4
theorem log_small {i : Int} (h : i.natAbs ≤ 1000000) : i.natAbs.log2 < 9000 :=
  Nat.lt_of_lt_of_le (PySem.Flt.log2_lt_of (k := 30) (by decide) (Nat.lt_of_le_of_lt h (by decide))) (by decide)
/-- a row is plain if nothing makes it plainer -/
theorem plain_cuts {k B : Nat} {r : Rw} (h : Rk k B r) : plainB r = (cuts r).isEmpty := by
  rw [Bool.eq_iff_iff, List.isEmpty_iff]
  have key : cuts r = [] ↔ ∀ j, j < r.2.length → cutsAt r j = [] := by
    unfold cuts cutsTo
    rw [List.flatten_eq_nil_iff]
    constructor
    · intro hall j hj
      exact hall _ (List.mem_map.mpr ⟨j, List.mem_range.mpr hj, rfl⟩)
    · intro hall l hl
      obtain ⟨j, hj, rfl⟩ := List.mem_map.mp hl
      exact hall j (List.mem_range.mp hj)
  rw [key]
  unfold plainB
  rw [List.all_eq_true]
  have roots : ∀ j, j < r.2.length → (rootS (lw r j) = lw r j ↔ rootsAt r j ((lw r j).length - 1) = []) := fun j hj => by
    obtain ⟨w1, _⟩ := h.lp hj
    have hl := len_pos w1
    rw [root_iff w1]
    unfold rootsAt
    rw [List.map_eq_nil_iff, List.filter_eq_nil_iff]
    constructor
    · intro hall m hm
      obtain ⟨i, hi, e⟩ := List.mem_range'.mp hm
      rw [hall m (by omega) (by omega)]
      decide
    · intro hall m h1 h2
      have := hall m (List.mem_range'.mpr ⟨m - 2, by omega, by omega⟩)
      simpa using this
  have lefts : ∀ j, leftB r j = (decide (tx r j ≠ nilS) && decide (lastC (tx r j) = lastC (lw r j))) := fun j => by
    unfold leftB
    rw [Bool.eq_iff_iff, decide_eq_true_eq, left_iff, Bool.and_eq_true, decide_eq_true_eq, decide_eq_true_eq]
  constructor
  · intro hall j hj
    have hp := hall j (List.mem_range.mpr hj)
    unfold plAt at hp
    simp only [Bool.and_eq_true, decide_eq_true_eq] at hp
    obtain ⟨⟨⟨h1, h2⟩, h3⟩, h4⟩ := hp
    unfold cutsAt
    rw [(roots j hj).mp h1, if_neg (by omega), lefts j]
    have h3' : (decide (tx r j ≠ nilS) && decide (lastC (tx r j) = lastC (lw r j))) = false := by
      cases hc : (decide (tx r j ≠ nilS) && decide (lastC (tx r j) = lastC (lw r j))) with
      | false => rfl
      | true => rw [hc] at h3; cases h3
    rw [h3', if_neg (by decide)]
    have h5 : joinB r j = false := by
      unfold joinB
      by_cases hj1 : j + 1 < r.2.length
      · have hp := hall (j + 1) (List.mem_range.mpr hj1)
        unfold plAt at hp
        simp only [Bool.and_eq_true] at hp
        have h6 := hp.2
        rw [decide_eq_true (Nat.succ_pos j), Bool.true_and, Nat.add_sub_cancel] at h6
        rw [Bool.eq_false_iff]
        intro hc
        simp only [Bool.and_eq_true, decide_eq_true_eq] at hc
        rw [decide_eq_true hc.2.1, decide_eq_true hc.2.2.symm] at h6
        cases h6
      · rw [decide_eq_false hj1]
        rfl
    rw [h5]
    rfl
  · intro hall j hj
    have hj := List.mem_range.mp hj
    obtain ⟨h1, h2, h3, h4⟩ := at_nil (hall j hj)
    unfold plAt
    rw [decide_eq_true ((roots j hj).mpr h1), decide_eq_true (show (lf r j).headD 0 = 0 by omega), ← lefts j, h3]
    by_cases h0 : 0 < j
    · have hp := (at_nil (hall (j - 1) (by omega))).2.2.2
      unfold joinB at hp
      rw [show j - 1 + 1 = j by omega, decide_eq_true hj, Bool.true_and] at hp
      rw [decide_eq_true h0]
      have : (decide (tx r j = nilS) && decide (lw r (j - 1) = lw r j)) = false := by
        rw [← hp]
        congr 1
        exact decide_eq_decide.mpr ⟨Eq.symm, Eq.symm⟩
      simp only [Bool.true_and, this]
      rfl
    · rw [decide_eq_false h0]
      rfl
section
variable {P : Program} {w : World} {K : PySem.W.Frag} {mg : Str → Option Value} {base : Heap}
def F_cuts : DF := fun as n Q => ∃ (k B : Nat) (r : Rw), as = [.d (rowD k r)] ∧ Rk k B r ∧ B ≤ 10000 ∧ Q (.list (mvsD (cuts r))) n
theorem c_cuts (T : Txt K mg "_law_cuts" s__law_cuts P__law_cuts) (B : Blt mg) : Cal P w K mg base "_law_cuts" P__law_cuts 1 (spD F_cuts) := by
  refine T.def sc__law_cuts (fun as n Q h => by obtain ⟨k, b, r, rfl, _⟩ := h; rfl) (fun f cdv A o s H E hr hg => ⟨_, (b_cons (s_setL (i := 1) sc__law_cuts.nd rfl (Or.inl rfl) (f_lst a_nil))
  (b_cons (s_for PassesOwn.never rfl (k_enum (K := K) (by rfl) (by rfl) B.enumerate (a_cons (g_ (k_ix (K := K) (by rfl) (lv 0) l_int)) a_nil)) (k_tup (n := 2) (K := K) (by rfl) (by rfl) (gs_cons (g_name (i := 2) sc__law_cuts.nd rfl (Or.inl rfl)) (gs_cons (k_tup (n := 2) (K := K) (by rfl) (by rfl) (gs_cons (g_name (i := 3) sc__law_cuts.nd rfl (Or.inl rfl)) (gs_cons (g_name (i := 4) sc__law_cuts.nd rfl (Or.inl rfl)) gs_nil))) gs_nil))) (b_cons (s_for PassesOwn.never rfl (i_range2 (by rfl) B.range (a_cons (g_ l_int) (a_cons (g_ (k_add (K := K) (by rfl) (l_callB (kb_len (K := K) (by rfl)) (by rfl) B.len (by decide +kernel) (a_cons (gv 3) a_nil)) l_int)) a_nil))) (g_name (i := 5) sc__law_cuts.nd rfl (Or.inl rfl)) (b_one (s_if (lt_cmp (k_eq (K := K) (by rfl) hr.units) (k_mul (K := K) (by rfl) (k_sl (K := K) (by rfl) (lv 3) o_none (o_some (l_div (l_callB (kb_len (K := K) (by rfl)) (by rfl) B.len (by decide +kernel) (a_cons (gv 3) a_nil)) (lv 5)))) (lv 5)) (lv 3) (nomark _)) (b_one (s_app (i := 1) (lv 1) (l_tup (a_cons (g_ l_str) (a_cons (gv 2) (a_cons (gv 5) a_nil)))))) b_nil)))
  (b_cons (s_if (lt_cmp c_gt (k_ix (K := K) (by rfl) (lv 4) l_int) l_int (nomark _)) (b_one (s_app (i := 1) (lv 1) (l_tup (a_cons (g_ l_str) (a_cons (gv 2) a_nil))))) b_nil)
  (b_cons (s_if (lt_cmp (k_eq (K := K) (by rfl) hr.units) (k_sl (K := K) (by rfl) (k_ix (K := K) (by rfl) (k_ix (K := K) (by rfl) (lv 0) l_int) (lv 2)) (o_some (l_neg l_int)) o_none) (k_ix (K := K) (by rfl) (lv 3) (l_neg l_int)) (nomark _)) (b_one (s_app (i := 1) (lv 1) (l_tup (a_cons (g_ l_str) (a_cons (gv 2) a_nil))))) b_nil)
  (b_one (s_if (lw_and (lt_cmp c_lt (k_add (K := K) (by rfl) (lv 2) l_int) (l_callB (kb_len (K := K) (by rfl)) (by rfl) B.len (by decide +kernel) (a_cons (g_ (k_ix (K := K) (by rfl) (lv 0) l_int)) a_nil)) (nomark _)) (lw_and (lt_cmp (k_eq (K := K) (by rfl) hr.units) (k_ix (K := K) (by rfl) (k_ix (K := K) (by rfl) (lv 0) l_int) (k_add (K := K) (by rfl) (lv 2) l_int)) l_str (nomark _)) (lw_and1 (lt_cmp (k_eq (K := K) (by rfl) hr.units) (k_ix (K := K) (by rfl) (k_ix (K := K) (by rfl) (k_ix (K := K) (by rfl) (lv 0) l_int) (k_add (K := K) (by rfl) (lv 2) l_int)) l_int) (lv 3) (nomark _))))).t (b_one (s_app (i := 1) (lv 1) (l_tup (a_cons (g_ l_str) (a_cons (gv 2) a_nil))))) b_nil))))))
  (b_one (s_ret (lv 1)))))⟩) (fun as n Q h => ?_)
  obtain ⟨k, b, r, rfl, hr, hb, hq⟩ := h
  simp only [rowD, dSeq, dRet, dSetL]
  simp (config := { maxSteps := 1000000 }) only [dIsi, Kd.of, dSetA, dAsgTA, dAppA, dExt, dgLst, dParLL, qSum2_l, qSum2_t, unS_d, unS_own, unS_dk, unS_un, qLe2_i, qLe2_s, qAll_l, dExt2, dPar3, dFind3, dRevS, diEnum, dSeq, dSet, dSetL, dRet, dRetO, dRetL, dIfS, dNext, dApp, dSetIx, dVar, dC, dOp, dFn, dFnL, dCons, dNil, dArg, dArgV, onD, datas, dTup, dLst, dLstL, dOfL, dAddL, dMulL, dIf, dTest, dTru, dNot, dAnd, dOr, dNotV, dAndV, dOrV, dSl, dPart, dNoPart, dCall, dMt, qAdd_i, qAdd_s, qAdd_t, qAdd_l, qSub_i, qDiv_i, qMod_i, qPow_i, qMul_i, qMul_s, qMul_t, qMul_l, qLt_i, qLe_i, qGt_i, qGe_i, qIx_l, qIx_t, qIx_s, qSl_l, qSl_t, qSl_s, qLen_l, qLen_t, qLen_s, qInt_i, qInt_b, qMin_i, qMax_i, qTup_l, qTup_t, qLst_l, qLst_t, qTru_n, qTru_b, qTru_i, qTru_s, qTru_l, qTru_t, qSum_l, qAny_l, qAny_t, qJoin_l, qCount_s, qEq_e, qNe_e, qRepr_e, dAsgT, dNeg, qNeg_i, dgTup, dgCons, dgName, dgNil, dPar, diR1, diOwn, diSeq, diL, diZip, diZipM, diVar, dParL, startS, toS, List.map_cons, List.map_nil, List.length_cons, List.length_nil, List.replicate, List.cons_append, List.nil_append, List.append_nil, List.getElem?_cons_zero, List.getElem?_cons_succ, List.set_cons_zero, List.set_cons_succ, Nat.reduceSub, Nat.reduceAdd, wipeS, canD, if_true, if_false, ite_true, ite_false, Bool.false_eq_true, PyData.bool.injEq, exists_eq_left', exists_eq_left, shp_i, shp_s, shp_b, shp_n, shp_e, shp_z, eqv_tt, eqv_lt, eqv_i, true_and, ix0, ix1, ix2, Option.some.injEq, PyData.tuple.injEq, PyData.list.injEq, PyData.int.injEq, PyData.str.injEq, S.own.injEq]
  have z2 : 2 * (lpsD r.2).length ≤ 2 * 40 := by rw [lpsD, List.length_map]; have := hr.2.1; omega
  refine ⟨sz6 (by decide), by decide, rfl, _, ix2, _, rfl, .inl (by simp only [NL, NLA_lps]), .inr ⟨_, rfl, ?_⟩⟩
  refine ⟨fun i ss n' => ∃ s2 s3 s4 s5, noOwn [s2, s3, s4, s5] = true ∧ ss = [.d (.tuple [.int k, .tuple (txD r.1), .tuple (lpsD r.2)]), .own (mvsD (cutsTo r i)), s2, s3, s4, s5] ∧ n' = n,
    ⟨.un, .un, .un, .un, rfl, rfl, rfl⟩, fun i d ss n' hd ⟨s2, s3, s4, s5, ho, e1, e2⟩ => ?_, fun ss n' ⟨s2, s3, s4, s5, ho, e1, e2⟩ => ?_⟩
  · subst e1 e2
    rw [enumD_get] at hd
    obtain ⟨x, hx, rfl⟩ := Option.map_eq_some_iff.mp hd
    obtain ⟨hi, rfl⟩ := get_lp hx
    obtain ⟨w1, w2, w3, w4, w5, w6⟩ := hr.lp hi
    have hi1 : i < r.1.length := by rw [hr.1]; omega
    have t2 := (hr.tx i).2
    obtain ⟨o2, o3, o4, o5⟩ : isOwn s2 = false ∧ isOwn s3 = false ∧ isOwn s4 = false ∧ isOwn s5 = false := by simpa [noOwn] using ho
    have hlen := cutsTo_len hr i (by omega)
    have hlen2 : i * (b + 3) ≤ 40 * (b + 3) := Nat.mul_le_mul_right _ (by have := hr.2.1; omega)
    simp (config := { maxSteps := 1000000 }) only [dIsi, Kd.of, dSetA, dAsgTA, dAppA, dExt, dgLst, dParLL, qSum2_l, qSum2_t, unS_d, unS_own, unS_dk, unS_un, qLe2_i, qLe2_s, qAll_l, dExt2, dPar3, dFind3, dRevS, diEnum, dSeq, dSet, dSetL, dRet, dRetO, dRetL, dIfS, dNext, dApp, dSetIx, dVar, dC, dOp, dFn, dFnL, dCons, dNil, dArg, dArgV, onD, datas, dTup, dLst, dLstL, dOfL, dAddL, dMulL, dIf, dTest, dTru, dNot, dAnd, dOr, dNotV, dAndV, dOrV, dSl, dPart, dNoPart, dCall, dMt, qAdd_i, qAdd_s, qAdd_t, qAdd_l, qSub_i, qDiv_i, qMod_i, qPow_i, qMul_i, qMul_s, qMul_t, qMul_l, qLt_i, qLe_i, qGt_i, qGe_i, qIx_l, qIx_t, qIx_s, qSl_l, qSl_t, qSl_s, qLen_l, qLen_t, qLen_s, qInt_i, qInt_b, qMin_i, qMax_i, qTup_l, qTup_t, qLst_l, qLst_t, qTru_n, qTru_b, qTru_i, qTru_s, qTru_l, qTru_t, qSum_l, qAny_l, qAny_t, qJoin_l, qCount_s, qEq_e, qNe_e, qRepr_e, dAsgT, dNeg, qNeg_i, dgTup, dgCons, dgName, dgNil, dPar, diR1, diOwn, diSeq, diL, diZip, diZipM, diVar, dParL, startS, toS, List.map_cons, List.map_nil, List.length_cons, List.length_nil, List.replicate, List.cons_append, List.nil_append, List.append_nil, List.getElem?_cons_zero, List.getElem?_cons_succ, List.set_cons_zero, List.set_cons_succ, Nat.reduceSub, Nat.reduceAdd, wipeS, canD, if_true, if_false, ite_true, ite_false, Bool.false_eq_true, PyData.bool.injEq, exists_eq_left', exists_eq_left, shp_i, shp_s, shp_b, shp_n, shp_e, shp_z, eqv_tt, eqv_lt, eqv_i, true_and, ix0, ix1, ix2, Option.some.injEq, PyData.tuple.injEq, PyData.list.injEq, PyData.int.injEq, PyData.str.injEq, S.own.injEq]
    refine ⟨sz6 (by omega), 2, _, rfl, ⟨by decide, by decide, by omega, by omega⟩, fun j ss n2 => ∃ s5, isOwn s5 = false ∧ ss = [.d (.tuple [.int k, .tuple (txD r.1), .tuple (lpsD r.2)]), .own (mvsD (cutsTo r i ++ rootsAt r i j)), .d (.int (i : Nat)), .d (.str (lw r i)), .d (fmD (lf r i)), s5] ∧ n2 = n',
      ⟨s5, o5, by rw [show rootsAt r i 0 = [] from rfl, List.append_nil], rfl⟩, fun j d ss n2 hj ⟨s5, o5, e1, e2⟩ => ?_, fun ss n2 ⟨s5, o5, e1, e2⟩ => ?_⟩
    · subst e1 e2
      obtain ⟨hj1, rfl⟩ : j < (lw r i).length - 1 ∧ d = .int ((2 + j : Nat) : Int) := by
        have hjl := (List.getElem?_eq_some_iff.mp hj).1
        have e : (rangeD 2 (((lw r i).length : Int) + 1 - 2).toNat).length = (lw r i).length - 1 := by
          unfold rangeD
          rw [List.length_map, List.length_range]
          omega
        refine ⟨by omega, ?_⟩
        unfold rangeD at hj
        rw [List.getElem?_map] at hj
        obtain ⟨y, hy, rfl⟩ := Option.map_eq_some_iff.mp hj
        have : y = j := by
          have hy2 := (List.getElem?_eq_some_iff.mp hy)
          obtain ⟨_, hy3⟩ := hy2
          rw [List.getElem_range] at hy3
          exact hy3.symm
        rw [this]
        congr 1
      have hrl : (rootsAt r i j).length ≤ j := by
        unfold rootsAt
        rw [List.length_map]
        exact Nat.le_trans (List.length_filter_le _ _) (by rw [List.length_range']; exact Nat.le_refl _)
      have ml : ∀ M : List Mv, (mvsD M).length = M.length := fun M => List.length_map _
      have eq : ((lw r i).length : Int) / ((2 + j : Nat) : Int) = (((lw r i).length / (2 + j) : Nat) : Int) := (Int.natCast_ediv _ _).symm
      simp (config := { maxSteps := 1000000 }) only [dIsi, Kd.of, dSetA, dAsgTA, dAppA, dExt, dgLst, dParLL, qSum2_l, qSum2_t, unS_d, unS_own, unS_dk, unS_un, qLe2_i, qLe2_s, qAll_l, dExt2, dPar3, dFind3, dRevS, diEnum, dSeq, dSet, dSetL, dRet, dRetO, dRetL, dIfS, dNext, dApp, dSetIx, dVar, dC, dOp, dFn, dFnL, dCons, dNil, dArg, dArgV, onD, datas, dTup, dLst, dLstL, dOfL, dAddL, dMulL, dIf, dTest, dTru, dNot, dAnd, dOr, dNotV, dAndV, dOrV, dSl, dPart, dNoPart, dCall, dMt, qAdd_i, qAdd_s, qAdd_t, qAdd_l, qSub_i, qDiv_i, qMod_i, qPow_i, qMul_i, qMul_s, qMul_t, qMul_l, qLt_i, qLe_i, qGt_i, qGe_i, qIx_l, qIx_t, qIx_s, qSl_l, qSl_t, qSl_s, qLen_l, qLen_t, qLen_s, qInt_i, qInt_b, qMin_i, qMax_i, qTup_l, qTup_t, qLst_l, qLst_t, qTru_n, qTru_b, qTru_i, qTru_s, qTru_l, qTru_t, qSum_l, qAny_l, qAny_t, qJoin_l, qCount_s, qEq_e, qNe_e, qRepr_e, dAsgT, dNeg, qNeg_i, dgTup, dgCons, dgName, dgNil, dPar, diR1, diOwn, diSeq, diL, diZip, diZipM, diVar, dParL, startS, toS, List.map_cons, List.map_nil, List.length_cons, List.length_nil, List.replicate, List.cons_append, List.nil_append, List.append_nil, List.getElem?_cons_zero, List.getElem?_cons_succ, List.set_cons_zero, List.set_cons_succ, Nat.reduceSub, Nat.reduceAdd, wipeS, canD, if_true, if_false, ite_true, ite_false, Bool.false_eq_true, PyData.bool.injEq, exists_eq_left', exists_eq_left, shp_i, shp_s, shp_b, shp_n, shp_e, shp_z, eqv_tt, eqv_lt, eqv_i, true_and, ix0, ix1, ix2, Option.some.injEq, PyData.tuple.injEq, PyData.list.injEq, PyData.int.injEq, PyData.str.injEq, S.own.injEq]
      have hcut : (cutS (lw r i) none (some (((lw r i).length : Int) / ((2 + j : Nat) : Int)))).length * (2 + j) ≤ 1000000 := by
        rw [eq, str_len, cut_to, List.length_take]
        have h1 := Nat.div_mul_le_self (lw r i).length (2 + j)
        have h2 := Nat.mul_le_mul_right (2 + j) (Nat.min_le_left ((lw r i).length / (2 + j)) (lw r i).cps.toList.length)
        omega
      refine ⟨sz6 (by omega), ⟨by omega, log_small (by rw [Int.natAbs_natCast]; omega)⟩, sz6 (by omega), by omega, by omega, sz6 (by rw [Int.toNat_natCast]; exact hcut), ?_⟩
      rw [eqv_s, Int.toNat_natCast, eq]
      have hs : rootsAt r i (j + 1) = rootsAt r i j ++ (if isRt (lw r i) (2 + j) = true then [Mv.root i (2 + j)] else []) := by
        unfold rootsAt
        rw [List.range'_concat, List.filter_append, List.map_append]
        congr 1
        rw [show 2 + 1 * j = 2 + j by omega]
        cases h : isRt (lw r i) (2 + j) <;> simp [h]
      by_cases hR : isRt (lw r i) (2 + j) = true
      · rw [if_pos (show decide (srep _ _ = _) = true from hR)]
        refine ⟨sz6 (by decide), sz6 (by rw [ml, List.length_append]; omega), rfl, .d (.int ((2 + j : Nat) : Int)), rfl, ?_, trivial⟩
        rw [hs, if_pos hR]
        simp only [mvsD, List.map_append, List.map_cons, List.map_nil, Mv.data, List.append_assoc]
      · rw [if_neg (show ¬ decide (srep _ _ = _) = true from hR)]
        refine ⟨.d (.int ((2 + j : Nat) : Int)), rfl, ?_, trivial⟩
        rw [hs, if_neg hR, List.append_nil]
    · subst e1 e2
      have er : (rangeD 2 (((lw r i).length : Int) + 1 - 2).toNat).length = (lw r i).length - 1 := by
        unfold rangeD
        rw [List.length_map, List.length_range]
        omega
      have ml : ∀ M : List Mv, (mvsD M).length = M.length := fun M => List.length_map _
      have hrl : (rootsAt r i ((lw r i).length - 1)).length ≤ (lw r i).length - 1 := by
        unfold rootsAt
        rw [List.length_map]
        exact Nat.le_trans (List.length_filter_le _ _) (by rw [List.length_range']; exact Nat.le_refl _)
      have ll : (lpsD r.2).length = r.2.length := List.length_map _
      simp only [er, dSeq]
      have leafEq : ∀ (M : List Mv) (x : Mv), mvsD M ++ [x.data] = mvsD (M ++ [x]) := fun M x => by simp [mvsD]
      obtain ⟨M, hM⟩ : ∃ M, M = cutsTo r i ++ rootsAt r i ((lw r i).length - 1) := ⟨_, rfl⟩
      have hMl : M.length ≤ 600000 := by rw [hM, List.length_append]; omega
      rw [← hM]
      have joins : ∀ N : List Mv, N.length ≤ 800000 → N ++ (if joinB r i = true then [.join i] else []) = cutsTo r (i + 1) → ∀ DD, (∀ s, isOwn s = false → DD.nx [.d (.tuple [.int k, .tuple (txD r.1), .tuple (lpsD r.2)]), .own (mvsD (cutsTo r (i + 1))), .d (.int (i : Nat)), .d (.str (lw r i)), .d (fmD (lf r i)), s] n2) →
          dIfS (dAnd (dTest (dOp qLt (dOp qAdd (dVar 2) (dC (PyData.int 1))) (dCall qLen (dCons (dArg (dOp qIx (dVar 0) (dC (PyData.int 2)))) dNil))))
            (dAnd (dTest (dOp qEq (dOp qIx (dOp qIx (dVar 0) (dC (PyData.int 1))) (dOp qAdd (dVar 2) (dC (PyData.int 1)))) (dC (PyData.str (Str.ofString "")))))
              (dTest (dOp qEq (dOp qIx (dOp qIx (dOp qIx (dVar 0) (dC (PyData.int 2))) (dOp qAdd (dVar 2) (dC (PyData.int 1)))) (dC (PyData.int 0))) (dVar 3)))))
            (dApp 1 (dTup (dCons (dArg (dC (PyData.str (Str.ofString "join")))) (dCons (dArgV 2) dNil)))) dNext
            DD [.d (.tuple [.int k, .tuple (txD r.1), .tuple (lpsD r.2)]), .own (mvsD N), .d (.int (i : Nat)), .d (.str (lw r i)), .d (fmD (lf r i)), s5] n2 := fun N hN hfin DD hDD => by
        have ei : ((i : Int) + 1) = ((i + 1 : Nat) : Int) := by omega
        have no : joinB r i = false → DD.nx [.d (.tuple [.int k, .tuple (txD r.1), .tuple (lpsD r.2)]), .own (mvsD N), .d (.int (i : Nat)), .d (.str (lw r i)), .d (fmD (lf r i)), s5] n2 := fun h => by
          rw [h, if_neg (by decide), List.append_nil] at hfin
          rw [hfin]
          exact hDD s5 o5
        simp (config := { maxSteps := 1000000 }) only [dIsi, Kd.of, dSetA, dAsgTA, dAppA, dExt, dgLst, dParLL, qSum2_l, qSum2_t, unS_d, unS_own, unS_dk, unS_un, qLe2_i, qLe2_s, qAll_l, dExt2, dPar3, dFind3, dRevS, diEnum, dSeq, dSet, dSetL, dRet, dRetO, dRetL, dIfS, dNext, dApp, dSetIx, dVar, dC, dOp, dFn, dFnL, dCons, dNil, dArg, dArgV, onD, datas, dTup, dLst, dLstL, dOfL, dAddL, dMulL, dIf, dTest, dTru, dNot, dAnd, dOr, dNotV, dAndV, dOrV, dSl, dPart, dNoPart, dCall, dMt, qAdd_i, qAdd_s, qAdd_t, qAdd_l, qSub_i, qDiv_i, qMod_i, qPow_i, qMul_i, qMul_s, qMul_t, qMul_l, qLt_i, qLe_i, qGt_i, qGe_i, qIx_l, qIx_t, qIx_s, qSl_l, qSl_t, qSl_s, qLen_l, qLen_t, qLen_s, qInt_i, qInt_b, qMin_i, qMax_i, qTup_l, qTup_t, qLst_l, qLst_t, qTru_n, qTru_b, qTru_i, qTru_s, qTru_l, qTru_t, qSum_l, qAny_l, qAny_t, qJoin_l, qCount_s, qEq_e, qNe_e, qRepr_e, dAsgT, dNeg, qNeg_i, dgTup, dgCons, dgName, dgNil, dPar, diR1, diOwn, diSeq, diL, diZip, diZipM, diVar, dParL, startS, toS, List.map_cons, List.map_nil, List.length_cons, List.length_nil, List.replicate, List.cons_append, List.nil_append, List.append_nil, List.getElem?_cons_zero, List.getElem?_cons_succ, List.set_cons_zero, List.set_cons_succ, Nat.reduceSub, Nat.reduceAdd, wipeS, canD, if_true, if_false, ite_true, ite_false, Bool.false_eq_true, PyData.bool.injEq, exists_eq_left', exists_eq_left, shp_i, shp_s, shp_b, shp_n, shp_e, shp_z, eqv_tt, eqv_lt, eqv_i, true_and, ix0, ix1, ix2, Option.some.injEq, PyData.tuple.injEq, PyData.list.injEq, PyData.int.injEq, PyData.str.injEq, S.own.injEq]
        rw [ll]
        by_cases h4 : i + 1 < r.2.length
        · rw [if_pos (by rw [decide_eq_true_eq]; omega), ei]
          refine ⟨_, at_tx (by rw [hr.1]; omega), rfl, ?_⟩
          rw [eqv_s]
          by_cases h5 : tx r (i + 1) = nilS
          · rw [if_pos (decide_eq_true (show tx r (i + 1) = Str.ofString "" from h5))]
            refine ⟨_, at_lp h4, _, ix0, rfl, ?_⟩
            rw [eqv_s]
            by_cases h6 : lw r (i + 1) = lw r i
            · rw [if_pos (decide_eq_true h6)]
              refine ⟨sz6 (by decide), sz6 (by rw [ml]; omega), rfl, ?_⟩
              have hJ : joinB r i = true := by
                unfold joinB
                rw [decide_eq_true h4, decide_eq_true h5, decide_eq_true h6]
                rfl
              rw [hJ, if_pos rfl] at hfin
              have e := leafEq N (.join i)
              rw [hfin] at e
              have h7 := hDD s5 o5
              rw [← e] at h7
              exact h7
            · rw [if_neg (by rw [decide_eq_true_eq]; exact h6)]
              exact no (by unfold joinB; rw [decide_eq_false h6]; simp)
          · rw [if_neg (by rw [decide_eq_true_eq]; exact h5)]
            exact no (by unfold joinB; rw [decide_eq_false h5]; simp)
        · rw [if_neg (by rw [decide_eq_true_eq]; omega)]
          exact no (by unfold joinB; rw [decide_eq_false h4]; rfl)
      have lefts : ∀ N : List Mv, N.length ≤ 700000 → N ++ (if leftB r i = true then [.left i] else []) ++ (if joinB r i = true then [.join i] else []) = cutsTo r (i + 1) → ∀ DD, (∀ N2 : List Mv, N2.length ≤ 800000 → N2 ++ (if joinB r i = true then [.join i] else []) = cutsTo r (i + 1) → DD.nx [.d (.tuple [.int k, .tuple (txD r.1), .tuple (lpsD r.2)]), .own (mvsD N2), .d (.int (i : Nat)), .d (.str (lw r i)), .d (fmD (lf r i)), s5] n2) →
          dIfS (dTest (dOp qEq (dSl (dOp qIx (dOp qIx (dVar 0) (dC (PyData.int 1))) (dVar 2)) (dPart (dNeg (dC (PyData.int 1)))) dNoPart) (dOp qIx (dVar 3) (dNeg (dC (PyData.int 1))))))
            (dApp 1 (dTup (dCons (dArg (dC (PyData.str (Str.ofString "left")))) (dCons (dArgV 2) dNil)))) dNext
            DD [.d (.tuple [.int k, .tuple (txD r.1), .tuple (lpsD r.2)]), .own (mvsD N), .d (.int (i : Nat)), .d (.str (lw r i)), .d (fmD (lf r i)), s5] n2 := fun N hN hfin DD hDD => by
        simp (config := { maxSteps := 1000000 }) only [dIsi, Kd.of, dSetA, dAsgTA, dAppA, dExt, dgLst, dParLL, qSum2_l, qSum2_t, unS_d, unS_own, unS_dk, unS_un, qLe2_i, qLe2_s, qAll_l, dExt2, dPar3, dFind3, dRevS, diEnum, dSeq, dSet, dSetL, dRet, dRetO, dRetL, dIfS, dNext, dApp, dSetIx, dVar, dC, dOp, dFn, dFnL, dCons, dNil, dArg, dArgV, onD, datas, dTup, dLst, dLstL, dOfL, dAddL, dMulL, dIf, dTest, dTru, dNot, dAnd, dOr, dNotV, dAndV, dOrV, dSl, dPart, dNoPart, dCall, dMt, qAdd_i, qAdd_s, qAdd_t, qAdd_l, qSub_i, qDiv_i, qMod_i, qPow_i, qMul_i, qMul_s, qMul_t, qMul_l, qLt_i, qLe_i, qGt_i, qGe_i, qIx_l, qIx_t, qIx_s, qSl_l, qSl_t, qSl_s, qLen_l, qLen_t, qLen_s, qInt_i, qInt_b, qMin_i, qMax_i, qTup_l, qTup_t, qLst_l, qLst_t, qTru_n, qTru_b, qTru_i, qTru_s, qTru_l, qTru_t, qSum_l, qAny_l, qAny_t, qJoin_l, qCount_s, qEq_e, qNe_e, qRepr_e, dAsgT, dNeg, qNeg_i, dgTup, dgCons, dgName, dgNil, dPar, diR1, diOwn, diSeq, diL, diZip, diZipM, diVar, dParL, startS, toS, List.map_cons, List.map_nil, List.length_cons, List.length_nil, List.replicate, List.cons_append, List.nil_append, List.append_nil, List.getElem?_cons_zero, List.getElem?_cons_succ, List.set_cons_zero, List.set_cons_succ, Nat.reduceSub, Nat.reduceAdd, wipeS, canD, if_true, if_false, ite_true, ite_false, Bool.false_eq_true, PyData.bool.injEq, exists_eq_left', exists_eq_left, shp_i, shp_s, shp_b, shp_n, shp_e, shp_z, eqv_tt, eqv_lt, eqv_i, true_and, ix0, ix1, ix2, Option.some.injEq, PyData.tuple.injEq, PyData.list.injEq, PyData.int.injEq, PyData.str.injEq, S.own.injEq]
        refine ⟨_, at_tx hi1, sz6 (by omega), sz6 (by omega), _, last_at w1, rfl, ?_⟩
        rw [eqv_s]
        by_cases h3 : leftB r i = true
        · rw [if_pos (show decide (cutS (tx r i) (some (-1)) none = ⟨#[lastC (lw r i)]⟩) = true from h3)]
          refine ⟨sz6 (by decide), sz6 (by rw [ml]; omega), rfl, ?_⟩
          rw [if_pos h3] at hfin
          have h7 := hDD (N ++ [.left i]) (by rw [List.length_append, List.length_singleton]; omega) hfin
          rw [← leafEq N (.left i)] at h7
          exact h7
        · rw [if_neg (show ¬ decide (cutS (tx r i) (some (-1)) none = ⟨#[lastC (lw r i)]⟩) = true from h3)]
          rw [if_neg h3, List.append_nil] at hfin
          exact hDD N (by omega) hfin
      refine ⟨_, f0_at w4, decide ((((lf r i).headD 0 : Nat) : Int) > 0), rfl, ?_⟩
      cases hb : decide ((((lf r i).headD 0 : Nat) : Int) > 0) with
      | true =>
        have h2 : 0 < (lf r i).headD 0 := by rw [decide_eq_true_eq] at hb; omega
        refine ⟨_, rfl, sz6 (Nat.le_of_lt (by decide : 2 < 1000000)), sz6 (by rw [ml]; omega), rfl, ?_⟩
        have e := leafEq M (.out i)
        have h7 := fun DD h => lefts (M ++ [.out i]) (by rw [List.length_append, List.length_singleton]; omega) (by rw [cuts_succ, cutsAt, if_pos h2, hM]; simp only [List.append_assoc]) DD h
        rw [← e] at h7
        exact h7 _ fun N2 h3 h4 => joins N2 h3 h4 _ fun s hs => ⟨.d (.int (i : Nat)), .d (.str (lw r i)), .d (fmD (lf r i)), s, by simp only [noOwn, List.any_cons, List.any_nil, isOwn_d, hs]; rfl, rfl, rfl⟩
      | false =>
        have h2 : ¬ 0 < (lf r i).headD 0 := by rw [decide_eq_false_iff_not] at hb; omega
        exact lefts M (by omega) (by rw [cuts_succ, cutsAt, if_neg h2, hM]; simp only [List.append_assoc, List.nil_append]) _ fun N2 h3 h4 => joins N2 h3 h4 _ fun s hs => ⟨.d (.int (i : Nat)), .d (.str (lw r i)), .d (fmD (lf r i)), s, by simp only [noOwn, List.any_cons, List.any_nil, isOwn_d, hs]; rfl, rfl, rfl⟩
  · subst e1 e2
    have el : (enumD (lpsD r.2)).length = r.2.length := by rw [enumD_len]; exact List.length_map _
    rw [el]
    simp (config := { maxSteps := 1000000 }) only [dIsi, Kd.of, dSetA, dAsgTA, dAppA, dExt, dgLst, dParLL, qSum2_l, qSum2_t, unS_d, unS_own, unS_dk, unS_un, qLe2_i, qLe2_s, qAll_l, dExt2, dPar3, dFind3, dRevS, diEnum, dSeq, dSet, dSetL, dRet, dRetO, dRetL, dIfS, dNext, dApp, dSetIx, dVar, dC, dOp, dFn, dFnL, dCons, dNil, dArg, dArgV, onD, datas, dTup, dLst, dLstL, dOfL, dAddL, dMulL, dIf, dTest, dTru, dNot, dAnd, dOr, dNotV, dAndV, dOrV, dSl, dPart, dNoPart, dCall, dMt, qAdd_i, qAdd_s, qAdd_t, qAdd_l, qSub_i, qDiv_i, qMod_i, qPow_i, qMul_i, qMul_s, qMul_t, qMul_l, qLt_i, qLe_i, qGt_i, qGe_i, qIx_l, qIx_t, qIx_s, qSl_l, qSl_t, qSl_s, qLen_l, qLen_t, qLen_s, qInt_i, qInt_b, qMin_i, qMax_i, qTup_l, qTup_t, qLst_l, qLst_t, qTru_n, qTru_b, qTru_i, qTru_s, qTru_l, qTru_t, qSum_l, qAny_l, qAny_t, qJoin_l, qCount_s, qEq_e, qNe_e, qRepr_e, dAsgT, dNeg, qNeg_i, dgTup, dgCons, dgName, dgNil, dPar, diR1, diOwn, diSeq, diL, diZip, diZipM, diVar, dParL, startS, toS, List.map_cons, List.map_nil, List.length_cons, List.length_nil, List.replicate, List.cons_append, List.nil_append, List.append_nil, List.getElem?_cons_zero, List.getElem?_cons_succ, List.set_cons_zero, List.set_cons_succ, Nat.reduceSub, Nat.reduceAdd, wipeS, canD, if_true, if_false, ite_true, ite_false, Bool.false_eq_true, PyData.bool.injEq, exists_eq_left', exists_eq_left, shp_i, shp_s, shp_b, shp_n, shp_e, shp_z, eqv_tt, eqv_lt, eqv_i, true_and, ix0, ix1, ix2, Option.some.injEq, PyData.tuple.injEq, PyData.list.injEq, PyData.int.injEq, PyData.str.injEq, S.own.injEq]
    exact hq
end
end Law

namespace Law
open PySem PySem.Spec PyProof.Rows L2 Ev
/-! ### a loop's place taken by others -/
def putR (r : Rw) (j : Nat) (a : Str) (ps : List (Str × List Nat)) (b : Str) : Rw := (r.1.take j ++ [a] ++ List.replicate (ps.length - 1) nilS ++ [b] ++ r.1.drop (j + 2), r.2.take j ++ ps ++ r.2.drop (j + 1))
theorem cutD_to {α : Type} (xs : List α) (i : Nat) : cut xs none (some (i : Int)) = xs.take i := by
  unfold cut
  rw [HT.sIx_none, HT.sIx_nat, List.drop_zero, Nat.sub_zero]
  by_cases h : i ≤ xs.length
  · rw [Nat.min_eq_left h]
  · rw [Nat.min_eq_right (by omega), List.take_length, List.take_of_length_le (by omega)]
theorem cutD_from {α : Type} (xs : List α) (i : Nat) : cut xs (some (i : Int)) none = xs.drop i := by
  unfold cut
  rw [HT.sIx_none, HT.sIx_nat]
  by_cases h : i ≤ xs.length
  · rw [Nat.min_eq_left h, List.take_of_length_le (by rw [List.length_drop]; exact Nat.le_refl _)]
  · rw [Nat.min_eq_right (by omega), Nat.sub_self, List.take_zero, List.drop_of_length_le (by omega)]
section
variable {P : Program} {w : World} {K : PySem.W.Frag} {mg : Str → Option Value} {base : Heap}
def F_put : DF := fun as n Q => ∃ (k : Nat) (r : Rw) (j : Nat) (a b : Str) (ps : List (Str × List Nat)), as = [.d (rowD k r), .d (.int (j : Nat)), .d (.str a), .d (.list (lpsD ps)), .d (.str b)] ∧ r.1.length ≤ 100 ∧ r.2.length ≤ 100 ∧ 1 ≤ ps.length ∧ ps.length ≤ 2 ∧ Q (rowD k (putR r j a ps b)) n
theorem c_put (T : Txt K mg "_law_put" s__law_put P__law_put) (B : Blt mg) : Cal P w K mg base "_law_put" P__law_put 1 (spD F_put) := by
  refine T.def sc__law_put (fun as n Q h => by obtain ⟨k, r, j, a, b, ps, rfl, _⟩ := h; rfl) (fun f cdv A o s H E hr hg => ⟨_, (b_cons (s_asgT (lv 0) (k_tup (n := 3) (K := K) (by rfl) (by rfl) (gs_cons (g_name (i := 5) sc__law_put.nd rfl (Or.inl rfl)) (gs_cons (g_name (i := 6) sc__law_put.nd rfl (Or.inl rfl)) (gs_cons (g_name (i := 7) sc__law_put.nd rfl (Or.inl rfl)) gs_nil)))))
  (b_cons (s_set (i := 8) sc__law_put.nd rfl (Or.inl rfl) (k_mul (K := K) (by rfl) (l_tup (a_cons (g_ l_str) a_nil)) (l_sub (l_callB (kb_len (K := K) (by rfl)) (by rfl) B.len (by decide +kernel) (a_cons (gv 3) a_nil)) l_int)))
  (b_cons (s_set (i := 9) sc__law_put.nd rfl (Or.inl rfl) (k_add (K := K) (by rfl) (k_add (K := K) (by rfl) (k_add (K := K) (by rfl) (k_add (K := K) (by rfl) (k_sl (K := K) (by rfl) (lv 6) o_none (o_some (lv 1))) (l_tup (a_cons (gv 2) a_nil))) (lv 8)) (l_tup (a_cons (gv 4) a_nil))) (k_sl (K := K) (by rfl) (lv 6) (o_some (k_add (K := K) (by rfl) (lv 1) l_int)) o_none)))
  (b_one (s_ret (l_tup (a_cons (gv 5) (a_cons (gv 9) (a_cons (g_ (k_add (K := K) (by rfl) (k_add (K := K) (by rfl) (k_sl (K := K) (by rfl) (lv 7) o_none (o_some (lv 1))) (l_callT (kb_tuple (K := K) (by rfl)) (by rfl) B.tuple (by decide +kernel) (a_cons (gv 3) a_nil))) (k_sl (K := K) (by rfl) (lv 7) (o_some (k_add (K := K) (by rfl) (lv 1) l_int)) o_none))) a_nil)))))))))⟩) (fun as n Q h => ?_)
  obtain ⟨k, r, j, a, b, ps, rfl, h1, h2, h3, h4, hq⟩ := h
  simp only [rowD, dSeq, dRet]
  simp (config := { maxSteps := 1000000 }) only [dIsi, Kd.of, dSetA, dAsgTA, dAppA, dExt, dgLst, dParLL, qSum2_l, qSum2_t, unS_d, unS_own, unS_dk, unS_un, qLe2_i, qLe2_s, qAll_l, dExt2, dPar3, dFind3, dRevS, diEnum, dSeq, dSet, dSetL, dRet, dRetO, dRetL, dIfS, dNext, dApp, dSetIx, dVar, dC, dOp, dFn, dFnL, dCons, dNil, dArg, dArgV, onD, datas, dTup, dLst, dLstL, dOfL, dAddL, dMulL, dIf, dTest, dTru, dNot, dAnd, dOr, dNotV, dAndV, dOrV, dSl, dPart, dNoPart, dCall, dMt, qAdd_i, qAdd_s, qAdd_t, qAdd_l, qSub_i, qDiv_i, qMod_i, qPow_i, qMul_i, qMul_s, qMul_t, qMul_l, qLt_i, qLe_i, qGt_i, qGe_i, qIx_l, qIx_t, qIx_s, qSl_l, qSl_t, qSl_s, qLen_l, qLen_t, qLen_s, qInt_i, qInt_b, qMin_i, qMax_i, qTup_l, qTup_t, qLst_l, qLst_t, qTru_n, qTru_b, qTru_i, qTru_s, qTru_l, qTru_t, qSum_l, qAny_l, qAny_t, qJoin_l, qCount_s, qEq_e, qNe_e, qRepr_e, dAsgT, dNeg, qNeg_i, dgTup, dgCons, dgName, dgNil, dPar, diR1, diOwn, diSeq, diL, diZip, diZipM, diVar, dParL, startS, toS, List.map_cons, List.map_nil, List.length_cons, List.length_nil, List.replicate, List.cons_append, List.nil_append, List.append_nil, List.getElem?_cons_zero, List.getElem?_cons_succ, List.set_cons_zero, List.set_cons_succ, Nat.reduceSub, Nat.reduceAdd, wipeS, canD, if_true, if_false, ite_true, ite_false, Bool.false_eq_true, PyData.bool.injEq, exists_eq_left', exists_eq_left, shp_i, shp_s, shp_b, shp_n, shp_e, shp_z, eqv_tt, eqv_lt, eqv_i, true_and, ix0, ix1, ix2, Option.some.injEq, PyData.tuple.injEq, PyData.list.injEq, PyData.int.injEq, PyData.str.injEq, S.own.injEq]
  have el : (lpsD ps).length = ps.length := List.length_map _
  have e1 : cut (txD r.1) none (some (j : Int)) = txD (r.1.take j) := by rw [cutD_to, txD, txD, List.map_take]
  have e2 : cut (txD r.1) (some ((j : Int) + 2)) none = txD (r.1.drop (j + 2)) := by rw [show (j : Int) + 2 = ((j + 2 : Nat) : Int) by omega, cutD_from, txD, txD, List.map_drop]
  have e3 : cut (lpsD r.2) none (some (j : Int)) = lpsD (r.2.take j) := by rw [cutD_to, lpsD, lpsD, List.map_take]
  have e4 : cut (lpsD r.2) (some ((j : Int) + 1)) none = lpsD (r.2.drop (j + 1)) := by rw [show (j : Int) + 1 = ((j + 1 : Nat) : Int) by omega, cutD_from, lpsD, lpsD, List.map_drop]
  have e5 : (List.replicate (((lpsD ps).length : Int) - 1).toNat [PyData.str (Str.ofString "")]).flatten = txD (List.replicate (ps.length - 1) nilS) := by
    rw [el, show ((ps.length : Int) - 1).toNat = ps.length - 1 by omega, List.flatten_replicate_singleton, txD, List.map_replicate]
    rfl
  have hq2 : Q (.tuple [.int k, .tuple (txD (r.1.take j) ++ [.str a] ++ txD (List.replicate (ps.length - 1) nilS) ++ [.str b] ++ txD (r.1.drop (j + 2))), .tuple (lpsD (r.2.take j) ++ lpsD ps ++ lpsD (r.2.drop (j + 1)))]) n := by
    have e6 : rowD k (putR r j a ps b) = .tuple [.int k, .tuple (txD (r.1.take j) ++ [.str a] ++ txD (List.replicate (ps.length - 1) nilS) ++ [.str b] ++ txD (r.1.drop (j + 2))), .tuple (lpsD (r.2.take j) ++ lpsD ps ++ lpsD (r.2.drop (j + 1)))] := by
      simp only [rowD, putR, txD, lpsD, List.map_append, List.map_cons, List.map_nil]
    rw [← e6]
    exact hq
  have l1 : (txD (r.1.take j)).length ≤ 100 := by rw [txD, List.length_map]; exact Nat.le_trans (List.length_take_le' _ _) h1
  have l2 : (txD (r.1.drop (j + 2))).length ≤ 100 := by rw [txD, List.length_map, List.length_drop]; omega
  have l3 : (lpsD (r.2.take j)).length ≤ 100 := by rw [lpsD, List.length_map]; exact Nat.le_trans (List.length_take_le' _ _) h2
  have l4 : (lpsD (r.2.drop (j + 1))).length ≤ 100 := by rw [lpsD, List.length_map, List.length_drop]; omega
  have l5 : (txD (List.replicate (ps.length - 1) nilS)).length ≤ 2 := by rw [txD, List.length_map, List.length_replicate]; omega
  simp only [e1, e2, e3, e4, e5, List.length_append, List.length_singleton]
  refine ⟨.inr rfl, sz6 (by decide), by omega, by omega, by decide, .inl (by simp only [NL, NLA_tx]), sz6 (by decide), sz6 (by omega), sz6 (by omega), sz6 (by decide), sz6 (by omega), sz6 (by omega), .inl ?_, sz6 (by omega), sz6 (by omega), sz6 (by decide), hq2⟩
  simp only [NL]
  have : ∀ xs ys : List PyData, NLA xs = true → NLA ys = true → NLA (xs ++ ys) = true := fun xs ys h1 h2 => by
    induction xs with
    | nil => exact h2
    | cons x r ih =>
      rw [List.cons_append, NLA, Bool.and_eq_true] at *
      exact ⟨h1.1, ih h1.2⟩
  exact this _ _ (this _ _ (this _ _ (this _ _ (NLA_tx _) rfl) (NLA_tx _)) rfl) (NLA_tx _)
end
end Law

namespace Law
open PySem PySem.Spec PyProof.Rows L2 Ev
/-! ### the row behind a move -/
def optD (k : Nat) : Option Rw → PyData
  | none => .none
  | some r => rowD k r
def rootR (r : Rw) (j n : Nat) : Rw := putR r j (tx r j) [(cutS (lw r j) none (some (((lw r j).length / n : Nat) : Int)), (lf r j).map (· * n))] (tx r (j + 1))
def turnRoot (r : Rw) (j n : Nat) : Option Rw := if n ≤ (lw r j).length ∧ isRt (lw r j) n = true then some (rootR r j n) else none
theorem natW {n : Nat} (h : n ≤ 10 ^ 40) : (n : Int).natAbs < 2 ^ 400 := by
  rw [Int.natAbs_natCast]
  exact Nat.lt_of_le_of_lt h (by decide)
def fmulB : PyData → PyData → PyData
  | .int a, .int b => .int (a * b)
  | _, _ => .none
section
variable {P : Program} {w : World} {K : PySem.W.Frag} {mg : Str → Option Value} {base : Heap}
def F_tby : DF := fun as n Q => ∃ (k B : Nat) (r : Rw) (j m : Nat), as = [.d (rowD k r), .d (Mv.root j m).data, .d (.str (lw r j)), .d (fmD (lf r j))] ∧ Rk k B r ∧ B ≤ 10000 ∧ k ≤ 3 ∧ j < r.2.length ∧ 2 ≤ m ∧ m ≤ 1000000 ∧ Q (optD k (turnRoot r j m)) n
theorem c_turn_by (T : Txt K mg "_law_turn_by" s__law_turn_by P__law_turn_by) (B : Blt mg) (C__law_put : Cal P w K mg base "_law_put" P__law_put 1 (spD F_put)) : Cal P w K mg base "_law_turn_by" P__law_turn_by 2 (spD F_tby) := by
  refine T.def sc__law_turn_by (fun as n Q h => by obtain ⟨k, b, r, j, m, rfl, _⟩ := h; rfl) (fun f cdv A o s H E hr hg => ⟨_, (b_cons (s_asgT (l_tup (a_cons (g_ (k_ix (K := K) (by rfl) (lv 1) l_int)) (a_cons (g_ (k_ix (K := K) (by rfl) (lv 1) l_int)) (a_cons (g_ (k_ix (K := K) (by rfl) (lv 1) l_int)) a_nil)))) (k_tup (n := 3) (K := K) (by rfl) (by rfl) (gs_cons (g_name (i := 4) sc__law_turn_by.nd rfl (Or.inl rfl)) (gs_cons (g_name (i := 5) sc__law_turn_by.nd rfl (Or.inl rfl)) (gs_cons (g_name (i := 6) sc__law_turn_by.nd rfl (Or.inr rfl)) gs_nil)))))
  (b_cons (s_par (i := 7) (j := 8) rfl sc__law_turn_by.nd rfl rfl (by decide) rfl rfl (k_ix (K := K) (by rfl) (k_ix (K := K) (by rfl) (lv 0) l_int) (lv 4)) (k_ix (K := K) (by rfl) (k_ix (K := K) (by rfl) (lv 0) l_int) (k_add (K := K) (by rfl) (lv 4) l_int)))
  (b_cons (s_if (lw_and (lt_cmp (k_eq (K := K) (by rfl) hr.units) (lv 5) l_str (nomark _)) (lw_and (lt_cmp c_ge (l_callB (kb_len (K := K) (by rfl)) (by rfl) B.len (by decide +kernel) (a_cons (gv 2) a_nil)) (lv 6) (nomark _)) (lw_and1 (lt_cmp (k_eq (K := K) (by rfl) hr.units) (k_mul (K := K) (by rfl) (k_sl (K := K) (by rfl) (lv 2) o_none (o_some (l_div (l_callB (kb_len (K := K) (by rfl)) (by rfl) B.len (by decide +kernel) (a_cons (gv 2) a_nil)) (lv 6)))) (lv 6)) (lv 2) (nomark _))))).t (b_cons (s_set (i := 9) sc__law_turn_by.nd rfl (Or.inl rfl) (l_tup (a_cons (g_ (k_sl (K := K) (by rfl) (lv 2) o_none (o_some (l_div (l_callB (kb_len (K := K) (by rfl)) (by rfl) B.len (by decide +kernel) (a_cons (gv 2) a_nil)) (lv 6))))) (a_cons (g_ (l_callT (kb_tuple (K := K) (by rfl)) (by rfl) B.tuple (by decide +kernel) (a_cons (g_ (l_L (f_lc (own := [("_law_one_here", 11)]) rfl sc__law_turn_by.nd (ic_ (k_seq (K := K) (by rfl) (lv 3))) (blkOk_by (own := [("_law_one_here", 11)]) (N := N__law_turn_by) (sc := defScope s__law_turn_by) (by decide +kernel)) (fun _ _ _ _ _ => (g_name (i := 11) sc__law_turn_by.nd rfl (Or.inl rfl))) (fun _ _ _ _ _ => ts_nil) (fun _ _ _ _ _ => (k_mul (K := K) (by rfl) (lv 11) (lv 6)))))) a_nil))) a_nil))))
  (b_one (s_ret (l_cal C__law_put (hr.mono (by omega)) hg (by rfl) (a_cons (gv 0) (a_cons (gv 4) (a_cons (gv 7) (a_cons (g_ (l_lst (a_cons (gv 9) a_nil))) (a_cons (gv 8) a_nil))))))))) b_nil)
  (b_cons (s_if (lw_and (lt_cmp (k_eq (K := K) (by rfl) hr.units) (lv 5) l_str (nomark _)) (lw_and1 (lt_cmp (k_eq (K := K) (by rfl) hr.units) (l_L (f_lc (own := [("_law_one_here", 11)]) rfl sc__law_turn_by.nd (ic_ (k_seq (K := K) (by rfl) (lv 3))) (blkOk_by (own := [("_law_one_here", 11)]) (N := N__law_turn_by) (sc := defScope s__law_turn_by) (by decide +kernel)) (fun _ _ _ _ _ => (g_name (i := 11) sc__law_turn_by.nd rfl (Or.inl rfl))) (fun _ _ _ _ _ => (ts_one (lt_cmp (k_ne (K := K) (by rfl) hr.units) (l_mod (l_callT b_int (by rfl) B.int (by decide +kernel) (a_cons (gv 11) a_nil)) (lv 6)) l_int (nomark _)))) (fun _ _ _ _ _ => (lv 11)))) (l_lst a_nil) (nomark _)))).t (b_one (s_ret (l_cal C__law_put (hr.mono (by omega)) hg (by rfl) (a_cons (gv 0) (a_cons (gv 4) (a_cons (gv 7) (a_cons (g_ (l_lst (a_cons (g_ (l_tup (a_cons (g_ (k_mul (K := K) (by rfl) (lv 2) (lv 6))) (a_cons (g_ (l_callT (kb_tuple (K := K) (by rfl)) (by rfl) B.tuple (by decide +kernel) (a_cons (g_ (l_L (f_lc (own := [("_law_one_here", 11)]) rfl sc__law_turn_by.nd (ic_ (k_seq (K := K) (by rfl) (lv 3))) (blkOk_by (own := [("_law_one_here", 11)]) (N := N__law_turn_by) (sc := defScope s__law_turn_by) (by decide +kernel)) (fun _ _ _ _ _ => (g_name (i := 11) sc__law_turn_by.nd rfl (Or.inl rfl))) (fun _ _ _ _ _ => ts_nil) (fun _ _ _ _ _ => (l_div (lv 11) (lv 6)))))) a_nil))) a_nil)))) a_nil))) (a_cons (gv 8) a_nil)))))))) b_nil)
  (b_cons (s_if (lw_and (lt_cmp (k_eq (K := K) (by rfl) hr.units) (lv 5) l_str (nomark _)) (lw_and (lt_cmp c_gt (l_callB (kb_sum2 (K := K) (by rfl) rfl) (by rfl) B.sum (by decide +kernel) (a_cons (g_ (k_sl (K := K) (by rfl) (lv 6) (o_some l_int) o_none)) a_nil)) l_int (nomark _)) (lw_and1 (lt_cmp (k_eq (K := K) (by rfl) hr.units) (l_L (f_lc (own := [("_law_one_here", 11), ("_law_two", 12)]) rfl sc__law_turn_by.nd (ic_ (k_zip (K := K) (by rfl) (by rfl) B.zip (a_cons (gv 3) (a_cons (gv 6) a_nil)))) (blkOk_by (own := [("_law_one_here", 11), ("_law_two", 12)]) (N := N__law_turn_by) (sc := defScope s__law_turn_by) (by decide +kernel)) (fun _ _ _ _ _ => (k_tup (n := 2) (K := K) (by rfl) (by rfl) (gs_cons (g_name (i := 11) sc__law_turn_by.nd rfl (Or.inl rfl)) (gs_cons (g_name (i := 12) sc__law_turn_by.nd rfl (Or.inl rfl)) gs_nil)))) (fun _ _ _ _ _ => (ts_one (lt_cmp c_gt (lv 12) (lv 11) (nomark _)))) (fun _ _ _ _ _ => l_int))) (l_lst a_nil) (nomark _))))).t (b_cons (s_set (i := 10) sc__law_turn_by.nd rfl (Or.inl rfl) (l_callT (kb_tuple (K := K) (by rfl)) (by rfl) B.tuple (by decide +kernel) (a_cons (g_ (l_L (f_lc (own := [("_law_one_here", 11), ("_law_two", 12)]) rfl sc__law_turn_by.nd (ic_ (k_zip (K := K) (by rfl) (by rfl) B.zip (a_cons (gv 3) (a_cons (gv 6) a_nil)))) (blkOk_by (own := [("_law_one_here", 11), ("_law_two", 12)]) (N := N__law_turn_by) (sc := defScope s__law_turn_by) (by decide +kernel)) (fun _ _ _ _ _ => (k_tup (n := 2) (K := K) (by rfl) (by rfl) (gs_cons (g_name (i := 11) sc__law_turn_by.nd rfl (Or.inl rfl)) (gs_cons (g_name (i := 12) sc__law_turn_by.nd rfl (Or.inl rfl)) gs_nil)))) (fun _ _ _ _ _ => ts_nil) (fun _ _ _ _ _ => (l_sub (lv 11) (lv 12)))))) a_nil)))
  (b_one (s_if (lt_cmp c_gt (l_callB (kb_sum2 (K := K) (by rfl) rfl) (by rfl) B.sum (by decide +kernel) (a_cons (g_ (k_sl (K := K) (by rfl) (lv 10) (o_some l_int) o_none)) a_nil)) l_int (nomark _)) (b_one (s_ret (l_cal C__law_put (hr.mono (by omega)) hg (by rfl) (a_cons (gv 0) (a_cons (gv 4) (a_cons (gv 7) (a_cons (g_ (l_lst (a_cons (g_ (l_tup (a_cons (gv 2) (a_cons (gv 6) a_nil)))) (a_cons (g_ (l_tup (a_cons (gv 2) (a_cons (gv 10) a_nil)))) a_nil)))) (a_cons (gv 8) a_nil)))))))) b_nil))) b_nil)
  (b_one (s_ret l_non)))))))⟩) (fun as n Q h => ?_)
  obtain ⟨k, b, r, j, m, rfl, hr, hb, hk, hj, hm2, hm6, hq⟩ := h
  have hj1 : j < r.1.length := by rw [hr.1]; omega
  have hj2 : j + 1 < r.1.length := by rw [hr.1]; omega
  obtain ⟨w1, w2, w3, w4, w5, w6⟩ := hr.lp hj
  have t1 := (hr.tx j).2
  have t2 := (hr.tx (j + 1)).2
  have n1 : PyData.eqv (.str (Str.ofString "root")) (.str (Str.ofString "root")) = true := by decide +kernel
  have n2 : PyData.eqv (.str (Str.ofString "root")) (.str (Str.ofString "whole")) = false := by decide +kernel
  have n3 : PyData.eqv (.str (Str.ofString "root")) (.str (Str.ofString "part")) = false := by decide +kernel
  simp only [Mv.data, rowD, dSeq, dRet]
  simp (config := { maxSteps := 1000000 }) only [dIsi, Kd.of, dSetA, dAsgTA, dAppA, dExt, dgLst, dParLL, qSum2_l, qSum2_t, unS_d, unS_own, unS_dk, unS_un, qLe2_i, qLe2_s, qAll_l, dExt2, dPar3, dFind3, dRevS, diEnum, dSeq, dSet, dSetL, dRet, dRetO, dRetL, dIfS, dNext, dApp, dSetIx, dVar, dC, dOp, dFn, dFnL, dCons, dNil, dArg, dArgV, onD, datas, dTup, dLst, dLstL, dOfL, dAddL, dMulL, dIf, dTest, dTru, dNot, dAnd, dOr, dNotV, dAndV, dOrV, dSl, dPart, dNoPart, dCall, dMt, qAdd_i, qAdd_s, qAdd_t, qAdd_l, qSub_i, qDiv_i, qMod_i, qPow_i, qMul_i, qMul_s, qMul_t, qMul_l, qLt_i, qLe_i, qGt_i, qGe_i, qIx_l, qIx_t, qIx_s, qSl_l, qSl_t, qSl_s, qLen_l, qLen_t, qLen_s, qInt_i, qInt_b, qMin_i, qMax_i, qTup_l, qTup_t, qLst_l, qLst_t, qTru_n, qTru_b, qTru_i, qTru_s, qTru_l, qTru_t, qSum_l, qAny_l, qAny_t, qJoin_l, qCount_s, qEq_e, qNe_e, qRepr_e, dAsgT, dNeg, qNeg_i, dgTup, dgCons, dgName, dgNil, dPar, diR1, diOwn, diSeq, diL, diZip, diZipM, diVar, dParL, startS, toS, List.map_cons, List.map_nil, List.length_cons, List.length_nil, List.replicate, List.cons_append, List.nil_append, List.append_nil, List.getElem?_cons_zero, List.getElem?_cons_succ, List.set_cons_zero, List.set_cons_succ, Nat.reduceSub, Nat.reduceAdd, wipeS, canD, if_true, if_false, ite_true, ite_false, Bool.false_eq_true, PyData.bool.injEq, exists_eq_left', exists_eq_left, shp_i, shp_s, shp_b, shp_n, shp_e, shp_z, eqv_tt, eqv_lt, eqv_i, true_and, ix0, ix1, ix2, Option.some.injEq, PyData.tuple.injEq, PyData.list.injEq, PyData.int.injEq, PyData.str.injEq, S.own.injEq]
  have ej : (j : Int) + 1 = ((j + 1 : Nat) : Int) := by omega
  have eq : ((lw r j).length : Int) / (m : Int) = (((lw r j).length / m : Nat) : Int) := (Int.natCast_ediv _ _).symm
  have hcut : (cutS (lw r j) none (some (((lw r j).length : Int) / (m : Int)))).length * m ≤ 1000000 := by
    rw [eq, str_len, cut_to, List.length_take]
    have h1 := Nat.div_mul_le_self (lw r j).length m
    have h2 := Nat.mul_le_mul_right m (Nat.min_le_left ((lw r j).length / m) (lw r j).cps.toList.length)
    omega
  have hdv : CDivW ((lw r j).length : Int) (m : Int) := ⟨by omega, log_small (by rw [Int.natAbs_natCast]; omega)⟩
  have nfl : ∀ x ∈ fI (lf r j), NL x = true := fun x hx => by obtain ⟨y, _, rfl⟩ := List.mem_map.mp hx; rfl
  refine ⟨sz6 (by decide), .inl rfl, _, at_tx hj1, _, by rw [ej]; exact at_tx hj2, by decide, .inl rfl, .inl rfl, ?_⟩
  rw [if_pos n1]
  refine ⟨sz6 (by omega), ?_⟩
  by_cases hle : m ≤ (lw r j).length
  · rw [if_pos (by rw [decide_eq_true_eq]; omega)]
    refine ⟨sz6 (by omega), hdv, sz6 (by omega), by omega, by omega, sz6 (by rw [Int.toNat_natCast]; exact hcut), ?_⟩
    rw [eqv_s, Int.toNat_natCast, eq]
    by_cases hR : isRt (lw r j) m = true
    · rw [if_pos (show decide (srep (cutS (lw r j) none (some (((lw r j).length / m : Nat) : Int))) m = lw r j) = true from hR)]
      refine ⟨sz6 (by omega), hdv, sz6 (by omega), ?_⟩
      refine lc_map (fI (lf r j)) n (fun d => fmulB d (.int m)) rfl (fun R hR => ?_) (sz6 (by rw [List.length_map]; omega)) (fun d hd => ?_) ?_
      · simp (config := { maxSteps := 1000000 }) only [dIsi, Kd.of, dSetA, dAsgTA, dAppA, dExt, dgLst, dParLL, qSum2_l, qSum2_t, unS_d, unS_own, unS_dk, unS_un, qLe2_i, qLe2_s, qAll_l, dExt2, dPar3, dFind3, dRevS, diEnum, dSeq, dSet, dSetL, dRet, dRetO, dRetL, dIfS, dNext, dApp, dSetIx, dVar, dC, dOp, dFn, dFnL, dCons, dNil, dArg, dArgV, onD, datas, dTup, dLst, dLstL, dOfL, dAddL, dMulL, dIf, dTest, dTru, dNot, dAnd, dOr, dNotV, dAndV, dOrV, dSl, dPart, dNoPart, dCall, dMt, qAdd_i, qAdd_s, qAdd_t, qAdd_l, qSub_i, qDiv_i, qMod_i, qPow_i, qMul_i, qMul_s, qMul_t, qMul_l, qLt_i, qLe_i, qGt_i, qGe_i, qIx_l, qIx_t, qIx_s, qSl_l, qSl_t, qSl_s, qLen_l, qLen_t, qLen_s, qInt_i, qInt_b, qMin_i, qMax_i, qTup_l, qTup_t, qLst_l, qLst_t, qTru_n, qTru_b, qTru_i, qTru_s, qTru_l, qTru_t, qSum_l, qAny_l, qAny_t, qJoin_l, qCount_s, qEq_e, qNe_e, qRepr_e, dAsgT, dNeg, qNeg_i, dgTup, dgCons, dgName, dgNil, dPar, diR1, diOwn, diSeq, diL, diZip, diZipM, diVar, dParL, startS, toS, List.map_cons, List.map_nil, List.length_cons, List.length_nil, List.replicate, List.cons_append, List.nil_append, List.append_nil, List.getElem?_cons_zero, List.getElem?_cons_succ, List.set_cons_zero, List.set_cons_succ, Nat.reduceSub, Nat.reduceAdd, wipeS, canD, if_true, if_false, ite_true, ite_false, Bool.false_eq_true, PyData.bool.injEq, exists_eq_left', exists_eq_left, shp_i, shp_s, shp_b, shp_n, shp_e, shp_z, eqv_tt, eqv_lt, eqv_i, true_and, ix0, ix1, ix2, Option.some.injEq, PyData.tuple.injEq, PyData.list.injEq, PyData.int.injEq, PyData.str.injEq, S.own.injEq]
        exact ⟨rfl, .inl (NL_fm _), hR⟩
      · obtain ⟨x, hx, rfl⟩ := List.mem_map.mp hd
        refine ⟨rfl, fun R hR => ?_⟩
        simp (config := { maxSteps := 1000000 }) only [dIsi, Kd.of, dSetA, dAsgTA, dAppA, dExt, dgLst, dParLL, qSum2_l, qSum2_t, unS_d, unS_own, unS_dk, unS_un, qLe2_i, qLe2_s, qAll_l, dExt2, dPar3, dFind3, dRevS, diEnum, dSeq, dSet, dSetL, dRet, dRetO, dRetL, dIfS, dNext, dApp, dSetIx, dVar, dC, dOp, dFn, dFnL, dCons, dNil, dArg, dArgV, onD, datas, dTup, dLst, dLstL, dOfL, dAddL, dMulL, dIf, dTest, dTru, dNot, dAnd, dOr, dNotV, dAndV, dOrV, dSl, dPart, dNoPart, dCall, dMt, qAdd_i, qAdd_s, qAdd_t, qAdd_l, qSub_i, qDiv_i, qMod_i, qPow_i, qMul_i, qMul_s, qMul_t, qMul_l, qLt_i, qLe_i, qGt_i, qGe_i, qIx_l, qIx_t, qIx_s, qSl_l, qSl_t, qSl_s, qLen_l, qLen_t, qLen_s, qInt_i, qInt_b, qMin_i, qMax_i, qTup_l, qTup_t, qLst_l, qLst_t, qTru_n, qTru_b, qTru_i, qTru_s, qTru_l, qTru_t, qSum_l, qAny_l, qAny_t, qJoin_l, qCount_s, qEq_e, qNe_e, qRepr_e, dAsgT, dNeg, qNeg_i, dgTup, dgCons, dgName, dgNil, dPar, diR1, diOwn, diSeq, diL, diZip, diZipM, diVar, dParL, startS, toS, List.map_cons, List.map_nil, List.length_cons, List.length_nil, List.replicate, List.cons_append, List.nil_append, List.append_nil, List.getElem?_cons_zero, List.getElem?_cons_succ, List.set_cons_zero, List.set_cons_succ, Nat.reduceSub, Nat.reduceAdd, wipeS, canD, if_true, if_false, ite_true, ite_false, Bool.false_eq_true, PyData.bool.injEq, exists_eq_left', exists_eq_left, shp_i, shp_s, shp_b, shp_n, shp_e, shp_z, eqv_tt, eqv_lt, eqv_i, true_and, ix0, ix1, ix2, Option.some.injEq, PyData.tuple.injEq, PyData.list.injEq, PyData.int.injEq, PyData.str.injEq, S.own.injEq]
        have hx15 := w6 x hx
        exact ⟨cmulW (natW (by omega)) (natW (by omega)), hR⟩
      · have es : (fI (lf r j)).map (fun d => fmulB d (.int (m : Int))) = fI ((lf r j).map (· * m)) := by
          show List.map _ (List.map _ (lf r j)) = List.map _ (List.map _ (lf r j))
          rw [List.map_map, List.map_map]
          refine List.map_congr_left fun x _ => ?_
          show PyData.int ((x : Int) * (m : Int)) = PyData.int ((x * m : Nat) : Int)
          rw [Int.natCast_mul]
        rw [es]
        rw [turnRoot, if_pos ⟨hle, hR⟩] at hq
        refine ⟨sz6 (by decide), .inl (NL_lp _ _), sz6 (by decide), k, r, j, tx r j, tx r (j + 1), [(_, _)], rfl, by rw [hr.1]; have := hr.2.1; omega, by have := hr.2.1; omega, Nat.le_refl 1, Nat.le_succ 1, hq⟩
    · rw [if_neg (show ¬ decide (srep (cutS (lw r j) none (some (((lw r j).length / m : Nat) : Int))) m = lw r j) = true from hR)]
      rw [turnRoot, if_neg fun h => hR h.2] at hq
      rw [if_neg (by rw [n2]; decide), if_neg (by rw [n3]; decide)]
      exact hq
  · rw [if_neg (by rw [decide_eq_true_eq]; omega)]
    rw [turnRoot, if_neg fun h => hle h.1] at hq
    rw [if_neg (by rw [n2]; decide), if_neg (by rw [n3]; decide)]
    exact hq
end
end Law

namespace Law
open PySem PySem.Spec PyProof.Rows L2 Ev
/-! ### zipped forms -/
theorem zip_fI : ∀ (f c : List Nat), zipD (fI f) (fI c) = (List.zipWith (fun (a b : Nat) => (PyData.int (a : Int), PyData.int (b : Int))) f c).map fun p => .tuple [p.1, p.2]
  | [], _ => by simp [zipD]
  | _ :: _, [] => by simp [zipD]
  | a :: f, b :: c => by
    have ih := zip_fI f c
    unfold zipD at ih ⊢
    simp only [List.map_cons, List.zipWith_cons_cons, ih]
theorem sum_nat : ∀ l : List Nat, (l.map fun (x : Nat) => (x : Int)).sum = (l.sum : Int)
  | [] => rfl
  | a :: r => by rw [List.map_cons, List.sum_cons, List.sum_cons, sum_nat r, Int.natCast_add]
theorem mem_zip {β : Type} {g : Nat → Nat → β} : ∀ {r c : List Nat} {p : β}, p ∈ List.zipWith g r c → ∃ x y, x ∈ r ∧ y ∈ c ∧ p = g x y
  | [], _, _, h => by simp at h
  | _ :: _, [], _, h => by simp at h
  | a :: r, b :: c, p, h => by
    rw [List.zipWith_cons_cons] at h
    rcases List.mem_cons.mp h with e | h
    · exact ⟨a, b, List.mem_cons_self, List.mem_cons_self, e⟩
    · obtain ⟨x, y, h1, h2, h3⟩ := mem_zip h
      exact ⟨x, y, List.mem_cons_of_mem _ h1, List.mem_cons_of_mem _ h2, h3⟩
end Law

namespace Law
open PySem PySem.Spec PyProof.Rows L2 Ev
/-! ### the row behind a move that makes it plainer -/
def leftR (r : Rw) (j : Nat) : Rw := putR r j (cutS (tx r j) none (some (-1))) [(chS (lastC (lw r j)) ++ cutS (lw r j) none (some (-1)), lf r j)] (chS (lastC (lw r j)) ++ tx r (j + 1))
def outR (r : Rw) (j : Nat) : Rw := putR r j (tx r j) [(lw r j, ((lf r j).headD 0 - 1) :: (lf r j).tail)] (lw r j ++ tx r (j + 1))
def joinR (r : Rw) (j : Nat) : Rw := (r.1.take (j + 1) ++ r.1.drop (j + 2), r.2.take j ++ [(lw r j, List.zipWith (· + ·) (lf r j) (lf r (j + 1)))] ++ r.2.drop (j + 2))
def cutR (r : Rw) : Mv → Rw
  | .left j => leftR r j
  | .out j => outR r j
  | .join j => joinR r j
  | .root j n => rootR r j n
  | _ => r
def faddB : PyData → PyData → PyData
  | .int a, .int b => .int (a + b)
  | _, _ => .none
section
variable {P : Program} {w : World} {K : PySem.W.Frag} {mg : Str → Option Value} {base : Heap}
def F_turn : DF := fun as n Q => ∃ (k B : Nat) (r : Rw) (m : Mv), as = [.d (rowD k r), .d m.data] ∧ Rk k B r ∧ B ≤ 10000 ∧ k ≤ 3 ∧ m ∈ cuts r ∧ Q (rowD k (cutR r m)) n
theorem q_root_left : PyData.eqv (.str (Str.ofString "root")) (.str (Str.ofString "left")) = false := by decide +kernel
theorem q_root_right : PyData.eqv (.str (Str.ofString "root")) (.str (Str.ofString "right")) = false := by decide +kernel
theorem q_root_out : PyData.eqv (.str (Str.ofString "root")) (.str (Str.ofString "out")) = false := by decide +kernel
theorem q_root_in : PyData.eqv (.str (Str.ofString "root")) (.str (Str.ofString "in")) = false := by decide +kernel
theorem q_root_join : PyData.eqv (.str (Str.ofString "root")) (.str (Str.ofString "join")) = false := by decide +kernel
theorem q_out_left : PyData.eqv (.str (Str.ofString "out")) (.str (Str.ofString "left")) = false := by decide +kernel
theorem q_out_right : PyData.eqv (.str (Str.ofString "out")) (.str (Str.ofString "right")) = false := by decide +kernel
theorem q_out_out : PyData.eqv (.str (Str.ofString "out")) (.str (Str.ofString "out")) = true := by decide +kernel
theorem q_out_in : PyData.eqv (.str (Str.ofString "out")) (.str (Str.ofString "in")) = false := by decide +kernel
theorem q_out_join : PyData.eqv (.str (Str.ofString "out")) (.str (Str.ofString "join")) = false := by decide +kernel
theorem q_left_left : PyData.eqv (.str (Str.ofString "left")) (.str (Str.ofString "left")) = true := by decide +kernel
theorem q_left_right : PyData.eqv (.str (Str.ofString "left")) (.str (Str.ofString "right")) = false := by decide +kernel
theorem q_left_out : PyData.eqv (.str (Str.ofString "left")) (.str (Str.ofString "out")) = false := by decide +kernel
theorem q_left_in : PyData.eqv (.str (Str.ofString "left")) (.str (Str.ofString "in")) = false := by decide +kernel
theorem q_left_join : PyData.eqv (.str (Str.ofString "left")) (.str (Str.ofString "join")) = false := by decide +kernel
theorem q_join_left : PyData.eqv (.str (Str.ofString "join")) (.str (Str.ofString "left")) = false := by decide +kernel
theorem q_join_right : PyData.eqv (.str (Str.ofString "join")) (.str (Str.ofString "right")) = false := by decide +kernel
theorem q_join_out : PyData.eqv (.str (Str.ofString "join")) (.str (Str.ofString "out")) = false := by decide +kernel
theorem q_join_in : PyData.eqv (.str (Str.ofString "join")) (.str (Str.ofString "in")) = false := by decide +kernel
theorem q_join_join : PyData.eqv (.str (Str.ofString "join")) (.str (Str.ofString "join")) = true := by decide +kernel
theorem nm_no {i : Nat} {ss : List S} {n : Nat} {nm x : Str} {t : DT} {q R : DS} {DD : DEnds} (hs : ss[i]? = some (.d (.str nm))) (he : PyData.eqv (.str nm) (.str x) = false) (h : R DD ss n) :
    dSeq (dIfS (dAnd (dTest (dOp qEq (dVar i) (dC (.str x)))) t) q dNext) R DD ss n := by
  unfold dSeq dIfS dAnd dTest dOp dVar dC dNext
  rw [hs]
  refine ⟨rfl, rfl, _, rfl, ?_⟩
  rw [he]
  exact h
theorem nm_yes {i : Nat} {ss : List S} {n : Nat} {nm x : Str} {t : DT} {q R : DS} {DD : DEnds} (hs : ss[i]? = some (.d (.str nm))) (he : PyData.eqv (.str nm) (.str x) = true) (h : ∀ N : List S → Nat → Prop, dIfS t q dNext { DD with nx := N } ss n) :
    dSeq (dIfS (dAnd (dTest (dOp qEq (dVar i) (dC (.str x)))) t) q dNext) R DD ss n := by
  have h := h (R DD)
  unfold dIfS dNext at h
  unfold dSeq dIfS dAnd dTest dOp dVar dC dNext
  rw [hs]
  refine ⟨rfl, rfl, _, rfl, ?_⟩
  rw [he]
  exact h
theorem seq4 {A1 A2 A3 A4 R : DS} {DD : DEnds} {ss : List S} {n : Nat} {P : List S → Nat → Prop} (h : ∀ T : DS, (∀ ss' n', P ss' n' → T DD ss' n') → dSeq A1 (dSeq A2 (dSeq A3 (dSeq A4 T))) DD ss n) (hR : ∀ ss' n', P ss' n' → R DD ss' n') : dSeq A1 (dSeq A2 (dSeq A3 (dSeq A4 R))) DD ss n := h R hR
theorem mem_cuts {r : Rw} {m : Mv} (h : m ∈ cuts r) : ∃ j, j < r.2.length ∧ ((∃ n, m = .root j n ∧ 2 ≤ n ∧ n ≤ (lw r j).length ∧ isRt (lw r j) n = true) ∨ (m = .out j ∧ 0 < (lf r j).headD 0) ∨ (m = .left j ∧ leftB r j = true) ∨ (m = .join j ∧ joinB r j = true)) := by
  unfold cuts cutsTo at h
  obtain ⟨l, hl, hm⟩ := List.mem_flatten.mp h
  obtain ⟨j, hj, rfl⟩ := List.mem_map.mp hl
  refine ⟨j, List.mem_range.mp hj, ?_⟩
  unfold cutsAt at hm
  simp only [List.mem_append] at hm
  rcases hm with ((hm | hm) | hm) | hm
  · unfold rootsAt at hm
    obtain ⟨n, hn, rfl⟩ := List.mem_map.mp hm
    obtain ⟨h1, h2⟩ := List.mem_filter.mp hn
    obtain ⟨i, hi, e⟩ := List.mem_range'.mp h1
    exact .inl ⟨n, rfl, by omega, by omega, h2⟩
  · split at hm
    · rename_i h
      exact .inr (.inl ⟨List.mem_singleton.mp hm, h⟩)
    · cases hm
  · split at hm
    · rename_i h
      exact .inr (.inr (.inl ⟨List.mem_singleton.mp hm, h⟩))
    · cases hm
  · split at hm
    · rename_i h
      exact .inr (.inr (.inr ⟨List.mem_singleton.mp hm, h⟩))
    · cases hm
theorem c_turn (T : Txt K mg "_law_turn" s__law_turn P__law_turn) (B : Blt mg) (C__law_put : Cal P w K mg base "_law_put" P__law_put 1 (spD F_put)) (C__law_turn_by : Cal P w K mg base "_law_turn_by" P__law_turn_by 2 (spD F_tby)) : Cal P w K mg base "_law_turn" P__law_turn 3 (spD F_turn) := by
  refine T.def sc__law_turn (fun as n Q h => by obtain ⟨k, b, r, m, rfl, _⟩ := h; rfl) (fun f cdv A o s H E hr hg => ⟨_, (b_cons (s_asgT (lv 0) (k_tup (n := 3) (K := K) (by rfl) (by rfl) (gs_cons (g_name (i := 2) sc__law_turn.nd rfl (Or.inl rfl)) (gs_cons (g_name (i := 3) sc__law_turn.nd rfl (Or.inl rfl)) (gs_cons (g_name (i := 4) sc__law_turn.nd rfl (Or.inl rfl)) gs_nil)))))
  (b_cons (s_if (lt_cmp c_ge (k_ix (K := K) (by rfl) (lv 1) l_int) (l_callB (kb_len (K := K) (by rfl)) (by rfl) B.len (by decide +kernel) (a_cons (gv 4) a_nil)) (nomark _)) (b_one (s_ret l_non)) b_nil)
  (b_cons (s_asgT (l_tup (a_cons (g_ (k_ix (K := K) (by rfl) (lv 1) l_int)) (a_cons (g_ (k_ix (K := K) (by rfl) (lv 4) (k_ix (K := K) (by rfl) (lv 1) l_int))) (a_cons (g_ (k_ix (K := K) (by rfl) (lv 1) l_int)) a_nil)))) (k_tup (n := 3) (K := K) (by rfl) (by rfl) (gs_cons (g_name (i := 5) sc__law_turn.nd rfl (Or.inl rfl)) (gs_cons (k_tup (n := 2) (K := K) (by rfl) (by rfl) (gs_cons (g_name (i := 6) sc__law_turn.nd rfl (Or.inl rfl)) (gs_cons (g_name (i := 7) sc__law_turn.nd rfl (Or.inl rfl)) gs_nil))) (gs_cons (g_name (i := 8) sc__law_turn.nd rfl (Or.inl rfl)) gs_nil)))))
  (b_cons (s_par (i := 9) (j := 10) rfl sc__law_turn.nd rfl rfl (by decide) rfl rfl (k_ix (K := K) (by rfl) (lv 3) (lv 5)) (k_ix (K := K) (by rfl) (lv 3) (k_add (K := K) (by rfl) (lv 5) l_int)))
  (b_cons (s_if (lw_and (lt_cmp (k_eq (K := K) (by rfl) hr.units) (lv 8) l_str (nomark _)) (lw_and1 (lt_cmp (k_eq (K := K) (by rfl) hr.units) (k_sl (K := K) (by rfl) (lv 9) (o_some (l_neg l_int)) o_none) (k_ix (K := K) (by rfl) (lv 6) (l_neg l_int)) (nomark _)))).t (b_one (s_ret (l_cal C__law_put (hr.mono (by omega)) hg (by rfl) (a_cons (gv 0) (a_cons (gv 5) (a_cons (g_ (k_sl (K := K) (by rfl) (lv 9) o_none (o_some (l_neg l_int)))) (a_cons (g_ (l_lst (a_cons (g_ (l_tup (a_cons (g_ (k_add (K := K) (by rfl) (k_ix (K := K) (by rfl) (lv 6) (l_neg l_int)) (k_sl (K := K) (by rfl) (lv 6) o_none (o_some (l_neg l_int))))) (a_cons (gv 7) a_nil)))) a_nil))) (a_cons (g_ (k_add (K := K) (by rfl) (k_ix (K := K) (by rfl) (lv 6) (l_neg l_int)) (lv 10))) a_nil)))))))) b_nil)
  (b_cons (s_if (lw_and (lt_cmp (k_eq (K := K) (by rfl) hr.units) (lv 8) l_str (nomark _)) (lw_and1 (lt_cmp (k_eq (K := K) (by rfl) hr.units) (k_sl (K := K) (by rfl) (lv 10) o_none (o_some l_int)) (k_ix (K := K) (by rfl) (lv 6) l_int) (nomark _)))).t (b_one (s_ret (l_cal C__law_put (hr.mono (by omega)) hg (by rfl) (a_cons (gv 0) (a_cons (gv 5) (a_cons (g_ (k_add (K := K) (by rfl) (lv 9) (k_ix (K := K) (by rfl) (lv 6) l_int))) (a_cons (g_ (l_lst (a_cons (g_ (l_tup (a_cons (g_ (k_add (K := K) (by rfl) (k_sl (K := K) (by rfl) (lv 6) (o_some l_int) o_none) (k_ix (K := K) (by rfl) (lv 6) l_int))) (a_cons (gv 7) a_nil)))) a_nil))) (a_cons (g_ (k_sl (K := K) (by rfl) (lv 10) (o_some l_int) o_none)) a_nil)))))))) b_nil)
  (b_cons (s_if (lw_and (lt_cmp (k_eq (K := K) (by rfl) hr.units) (lv 8) l_str (nomark _)) (lw_and1 (lt_cmp c_gt (k_ix (K := K) (by rfl) (lv 7) l_int) l_int (nomark _)))).t (b_one (s_ret (l_cal C__law_put (hr.mono (by omega)) hg (by rfl) (a_cons (gv 0) (a_cons (gv 5) (a_cons (gv 9) (a_cons (g_ (l_lst (a_cons (g_ (l_tup (a_cons (gv 6) (a_cons (g_ (k_add (K := K) (by rfl) (l_tup (a_cons (g_ (l_sub (k_ix (K := K) (by rfl) (lv 7) l_int) l_int)) a_nil)) (k_sl (K := K) (by rfl) (lv 7) (o_some l_int) o_none))) a_nil)))) a_nil))) (a_cons (g_ (k_add (K := K) (by rfl) (lv 6) (lv 10))) a_nil)))))))) b_nil)
  (b_cons (s_if (lw_and (lt_cmp (k_eq (K := K) (by rfl) hr.units) (lv 8) l_str (nomark _)) (lw_and1 (lt_cmp (k_eq (K := K) (by rfl) hr.units) (k_sl (K := K) (by rfl) (lv 10) o_none (o_some (l_callB (kb_len (K := K) (by rfl)) (by rfl) B.len (by decide +kernel) (a_cons (gv 6) a_nil)))) (lv 6) (nomark _)))).t (b_one (s_ret (l_cal C__law_put (hr.mono (by omega)) hg (by rfl) (a_cons (gv 0) (a_cons (gv 5) (a_cons (gv 9) (a_cons (g_ (l_lst (a_cons (g_ (l_tup (a_cons (gv 6) (a_cons (g_ (k_add (K := K) (by rfl) (l_tup (a_cons (g_ (k_add (K := K) (by rfl) (k_ix (K := K) (by rfl) (lv 7) l_int) l_int)) a_nil)) (k_sl (K := K) (by rfl) (lv 7) (o_some l_int) o_none))) a_nil)))) a_nil))) (a_cons (g_ (k_sl (K := K) (by rfl) (lv 10) (o_some (l_callB (kb_len (K := K) (by rfl)) (by rfl) B.len (by decide +kernel) (a_cons (gv 6) a_nil))) o_none)) a_nil)))))))) b_nil)
  (b_cons (s_if (lw_and (lt_cmp (k_eq (K := K) (by rfl) hr.units) (lv 8) l_str (nomark _)) (lw_and (lt_cmp (k_eq (K := K) (by rfl) hr.units) (lv 10) l_str (nomark _)) (lw_and (lt_cmp c_lt (k_add (K := K) (by rfl) (lv 5) l_int) (l_callB (kb_len (K := K) (by rfl)) (by rfl) B.len (by decide +kernel) (a_cons (gv 4) a_nil)) (nomark _)) (lw_and1 (lt_cmp (k_eq (K := K) (by rfl) hr.units) (k_ix (K := K) (by rfl) (k_ix (K := K) (by rfl) (lv 4) (k_add (K := K) (by rfl) (lv 5) l_int)) l_int) (lv 6) (nomark _)))))).t (b_cons (s_set (i := 11) sc__law_turn.nd rfl (Or.inl rfl) (l_callT (kb_tuple (K := K) (by rfl)) (by rfl) B.tuple (by decide +kernel) (a_cons (g_ (l_L (f_lc (own := [("_law_one_here", 12), ("_law_two", 13)]) rfl sc__law_turn.nd (ic_ (k_zip (K := K) (by rfl) (by rfl) B.zip (a_cons (gv 7) (a_cons (g_ (k_ix (K := K) (by rfl) (k_ix (K := K) (by rfl) (lv 4) (k_add (K := K) (by rfl) (lv 5) l_int)) l_int)) a_nil)))) (blkOk_by (own := [("_law_one_here", 12), ("_law_two", 13)]) (N := N__law_turn) (sc := defScope s__law_turn) (by decide +kernel)) (fun _ _ _ _ _ => (k_tup (n := 2) (K := K) (by rfl) (by rfl) (gs_cons (g_name (i := 12) sc__law_turn.nd rfl (Or.inl rfl)) (gs_cons (g_name (i := 13) sc__law_turn.nd rfl (Or.inl rfl)) gs_nil)))) (fun _ _ _ _ _ => ts_nil) (fun _ _ _ _ _ => (k_add (K := K) (by rfl) (lv 12) (lv 13)))))) a_nil)))
  (b_one (s_ret (l_tup (a_cons (gv 2) (a_cons (g_ (k_add (K := K) (by rfl) (k_sl (K := K) (by rfl) (lv 3) o_none (o_some (k_add (K := K) (by rfl) (lv 5) l_int))) (k_sl (K := K) (by rfl) (lv 3) (o_some (k_add (K := K) (by rfl) (lv 5) l_int)) o_none))) (a_cons (g_ (k_add (K := K) (by rfl) (k_add (K := K) (by rfl) (k_sl (K := K) (by rfl) (lv 4) o_none (o_some (lv 5))) (l_tup (a_cons (g_ (l_tup (a_cons (gv 6) (a_cons (gv 11) a_nil)))) a_nil))) (k_sl (K := K) (by rfl) (lv 4) (o_some (k_add (K := K) (by rfl) (lv 5) l_int)) o_none))) a_nil))))))) b_nil)
  (b_one (s_ret (l_if (lt_cmp (k_eq (K := K) (by rfl) hr.units) (l_callB (kb_len (K := K) (by rfl)) (by rfl) B.len (by decide +kernel) (a_cons (gv 1) a_nil)) l_int (nomark _)) (l_cal C__law_turn_by (hr.mono (by omega)) hg (by rfl) (a_cons (gv 0) (a_cons (gv 1) (a_cons (gv 6) (a_cons (gv 7) a_nil))))) l_non))))))))))))⟩) (fun as n Q h => ?_)
  obtain ⟨k, b, r, m, rfl, hr, hb, hk, hm, hq⟩ := h
  obtain ⟨j, hj, hmm⟩ := mem_cuts hm
  have hj1 : j < r.1.length := by rw [hr.1]; omega
  have hj2 : j + 1 < r.1.length := by rw [hr.1]; omega
  obtain ⟨w1, w2, w3, w4, w5, w6⟩ := hr.lp hj
  have t1 := (hr.tx j).2
  have t2 := (hr.tx (j + 1)).2
  have ej : (j : Int) + 1 = ((j + 1 : Nat) : Int) := by omega
  have ll : (lpsD r.2).length = r.2.length := List.length_map _
  obtain ⟨nm, rest, hdata⟩ : ∃ nm rest, m.data = .tuple (.str nm :: .int (j : Nat) :: rest) := by
    rcases hmm with ⟨m, rfl, _⟩ | ⟨rfl, _⟩ | ⟨rfl, _⟩ | ⟨rfl, _⟩ <;> exact ⟨_, _, rfl⟩
  refine seq4 (P := fun ss n' => ss = [.d (rowD k r), .d m.data, .d (.int k), .d (.tuple (txD r.1)), .d (.tuple (lpsD r.2)), .d (.int (j : Nat)), .d (.str (lw r j)), .d (fmD (lf r j)), .d (.str nm), .d (.str (tx r j)), .d (.str (tx r (j + 1))), .un, .un, .un] ∧ n' = n) (fun T hT => ?_) (fun ss n' ⟨e1, e2⟩ => ?_)
  · rw [hdata] at hT ⊢
    simp only [rowD, dSeq, dRet]
    simp (config := { maxSteps := 1000000 }) only [dIsi, Kd.of, dSetA, dAsgTA, dAppA, dExt, dgLst, dParLL, qSum2_l, qSum2_t, unS_d, unS_own, unS_dk, unS_un, qLe2_i, qLe2_s, qAll_l, dExt2, dPar3, dFind3, dRevS, diEnum, dSeq, dSet, dSetL, dRet, dRetO, dRetL, dIfS, dNext, dApp, dSetIx, dVar, dC, dOp, dFn, dFnL, dCons, dNil, dArg, dArgV, onD, datas, dTup, dLst, dLstL, dOfL, dAddL, dMulL, dIf, dTest, dTru, dNot, dAnd, dOr, dNotV, dAndV, dOrV, dSl, dPart, dNoPart, dCall, dMt, qAdd_i, qAdd_s, qAdd_t, qAdd_l, qSub_i, qDiv_i, qMod_i, qPow_i, qMul_i, qMul_s, qMul_t, qMul_l, qLt_i, qLe_i, qGt_i, qGe_i, qIx_l, qIx_t, qIx_s, qSl_l, qSl_t, qSl_s, qLen_l, qLen_t, qLen_s, qInt_i, qInt_b, qMin_i, qMax_i, qTup_l, qTup_t, qLst_l, qLst_t, qTru_n, qTru_b, qTru_i, qTru_s, qTru_l, qTru_t, qSum_l, qAny_l, qAny_t, qJoin_l, qCount_s, qEq_e, qNe_e, qRepr_e, dAsgT, dNeg, qNeg_i, dgTup, dgCons, dgName, dgNil, dPar, diR1, diOwn, diSeq, diL, diZip, diZipM, diVar, dParL, startS, toS, List.map_cons, List.map_nil, List.length_cons, List.length_nil, List.replicate, List.cons_append, List.nil_append, List.append_nil, List.getElem?_cons_zero, List.getElem?_cons_succ, List.set_cons_zero, List.set_cons_succ, Nat.reduceSub, Nat.reduceAdd, wipeS, canD, if_true, if_false, ite_true, ite_false, Bool.false_eq_true, PyData.bool.injEq, exists_eq_left', exists_eq_left, shp_i, shp_s, shp_b, shp_n, shp_e, shp_z, eqv_tt, eqv_lt, eqv_i, true_and, ix0, ix1, ix2, Option.some.injEq, PyData.tuple.injEq, PyData.list.injEq, PyData.int.injEq, PyData.str.injEq, S.own.injEq]
    refine ⟨.inr rfl, ?_⟩
    rw [ll, if_neg (by rw [decide_eq_true_eq]; omega)]
    refine ⟨_, at_lp hj, sz6 (by decide), .inr rfl, _, rfl, rfl, rfl, _, at_tx hj1, _, by rw [ej]; exact at_tx hj2, by decide, .inr rfl, .inr rfl, ?_⟩
    exact hT _ _ ⟨rfl, rfl⟩
  · subst e1 e2
    rcases hmm with ⟨m, rfl, m2, mw, hR⟩ | ⟨rfl, h0⟩ | ⟨rfl, hL⟩ | ⟨rfl, hJ⟩
    · cases hdata
      refine nm_no rfl q_root_left (nm_no rfl q_root_right (nm_no rfl q_root_out (nm_no rfl q_root_in (nm_no rfl q_root_join ?_))))
      simp only [dRet, Mv.data]
      simp (config := { maxSteps := 1000000 }) only [dIsi, Kd.of, dSetA, dAsgTA, dAppA, dExt, dgLst, dParLL, qSum2_l, qSum2_t, unS_d, unS_own, unS_dk, unS_un, qLe2_i, qLe2_s, qAll_l, dExt2, dPar3, dFind3, dRevS, diEnum, dSeq, dSet, dSetL, dRet, dRetO, dRetL, dIfS, dNext, dApp, dSetIx, dVar, dC, dOp, dFn, dFnL, dCons, dNil, dArg, dArgV, onD, datas, dTup, dLst, dLstL, dOfL, dAddL, dMulL, dIf, dTest, dTru, dNot, dAnd, dOr, dNotV, dAndV, dOrV, dSl, dPart, dNoPart, dCall, dMt, qAdd_i, qAdd_s, qAdd_t, qAdd_l, qSub_i, qDiv_i, qMod_i, qPow_i, qMul_i, qMul_s, qMul_t, qMul_l, qLt_i, qLe_i, qGt_i, qGe_i, qIx_l, qIx_t, qIx_s, qSl_l, qSl_t, qSl_s, qLen_l, qLen_t, qLen_s, qInt_i, qInt_b, qMin_i, qMax_i, qTup_l, qTup_t, qLst_l, qLst_t, qTru_n, qTru_b, qTru_i, qTru_s, qTru_l, qTru_t, qSum_l, qAny_l, qAny_t, qJoin_l, qCount_s, qEq_e, qNe_e, qRepr_e, dAsgT, dNeg, qNeg_i, dgTup, dgCons, dgName, dgNil, dPar, diR1, diOwn, diSeq, diL, diZip, diZipM, diVar, dParL, startS, toS, List.map_cons, List.map_nil, List.length_cons, List.length_nil, List.replicate, List.cons_append, List.nil_append, List.append_nil, List.getElem?_cons_zero, List.getElem?_cons_succ, List.set_cons_zero, List.set_cons_succ, Nat.reduceSub, Nat.reduceAdd, wipeS, canD, if_true, if_false, ite_true, ite_false, Bool.false_eq_true, PyData.bool.injEq, exists_eq_left', exists_eq_left, shp_i, shp_s, shp_b, shp_n, shp_e, shp_z, eqv_tt, eqv_lt, eqv_i, true_and, ix0, ix1, ix2, Option.some.injEq, PyData.tuple.injEq, PyData.list.injEq, PyData.int.injEq, PyData.str.injEq, S.own.injEq]
      rw [if_pos (by decide)]
      refine ⟨k, b, r, j, m, rfl, hr, hb, hk, hj, m2, by omega, ?_⟩
      rw [turnRoot, if_pos ⟨mw, hR⟩]
      exact hq
    · cases hdata
      refine nm_no rfl q_out_left (nm_no rfl q_out_right (nm_yes rfl q_out_out fun N => ?_))
      simp only [dRet, Mv.data]
      simp (config := { maxSteps := 1000000 }) only [dIsi, Kd.of, dSetA, dAsgTA, dAppA, dExt, dgLst, dParLL, qSum2_l, qSum2_t, unS_d, unS_own, unS_dk, unS_un, qLe2_i, qLe2_s, qAll_l, dExt2, dPar3, dFind3, dRevS, diEnum, dSeq, dSet, dSetL, dRet, dRetO, dRetL, dIfS, dNext, dApp, dSetIx, dVar, dC, dOp, dFn, dFnL, dCons, dNil, dArg, dArgV, onD, datas, dTup, dLst, dLstL, dOfL, dAddL, dMulL, dIf, dTest, dTru, dNot, dAnd, dOr, dNotV, dAndV, dOrV, dSl, dPart, dNoPart, dCall, dMt, qAdd_i, qAdd_s, qAdd_t, qAdd_l, qSub_i, qDiv_i, qMod_i, qPow_i, qMul_i, qMul_s, qMul_t, qMul_l, qLt_i, qLe_i, qGt_i, qGe_i, qIx_l, qIx_t, qIx_s, qSl_l, qSl_t, qSl_s, qLen_l, qLen_t, qLen_s, qInt_i, qInt_b, qMin_i, qMax_i, qTup_l, qTup_t, qLst_l, qLst_t, qTru_n, qTru_b, qTru_i, qTru_s, qTru_l, qTru_t, qSum_l, qAny_l, qAny_t, qJoin_l, qCount_s, qEq_e, qNe_e, qRepr_e, dAsgT, dNeg, qNeg_i, dgTup, dgCons, dgName, dgNil, dPar, diR1, diOwn, diSeq, diL, diZip, diZipM, diVar, dParL, startS, toS, List.map_cons, List.map_nil, List.length_cons, List.length_nil, List.replicate, List.cons_append, List.nil_append, List.append_nil, List.getElem?_cons_zero, List.getElem?_cons_succ, List.set_cons_zero, List.set_cons_succ, Nat.reduceSub, Nat.reduceAdd, wipeS, canD, if_true, if_false, ite_true, ite_false, Bool.false_eq_true, PyData.bool.injEq, exists_eq_left', exists_eq_left, shp_i, shp_s, shp_b, shp_n, shp_e, shp_z, eqv_tt, eqv_lt, eqv_i, true_and, ix0, ix1, ix2, Option.some.injEq, PyData.tuple.injEq, PyData.list.injEq, PyData.int.injEq, PyData.str.injEq, S.own.injEq]
      refine ⟨_, f0_at w4, _, rfl, ?_⟩
      rw [if_pos (by rw [decide_eq_true_eq]; omega)]
      have e0 : cut (fI (lf r j)) (some 1) none = fI (lf r j).tail := by rw [cut_tail, tail_fI]
      have e1 : PyData.tuple ([PyData.int ((((lf r j).headD 0 : Nat) : Int) - 1)] ++ cut (fI (lf r j)) (some 1) none) = fmD (((lf r j).headD 0 - 1) :: (lf r j).tail) := by
        rw [e0, show (((lf r j).headD 0 : Nat) : Int) - 1 = (((lf r j).headD 0 - 1 : Nat) : Int) by omega]
        rfl
      have l0 : 1 + (cut (fI (lf r j)) (some 1) none).length ≤ 5 := by rw [e0, List.length_map, List.length_tail]; omega
      refine ⟨_, f0_at w4, sz6 (Nat.le_of_lt (by decide : 1 < 1000000)), sz6 (Nat.le_trans l0 (by decide)), sz6 (Nat.le_of_lt (by decide : 2 < 1000000)), sz6 (Nat.le_of_lt (by decide : 1 < 1000000)), sz6 (by omega), k, r, j, tx r j, lw r j ++ tx r (j + 1), [(lw r j, ((lf r j).headD 0 - 1) :: (lf r j).tail)], ?_, by rw [hr.1]; have := hr.2.1; omega, by have := hr.2.1; omega, Nat.le_refl 1, Nat.le_succ 1, hq⟩
      show [W.d _, W.d _, W.d _, W.d (.list [.tuple [_, PyData.tuple ([PyData.int ((((lf r j).headD 0 : Nat) : Int) - 1)] ++ cut (fI (lf r j)) (some 1) none)]]), W.d _] = _
      rw [e1]
      rfl
    · cases hdata
      refine nm_yes rfl q_left_left fun N => ?_
      simp only [dRet, Mv.data]
      simp (config := { maxSteps := 1000000 }) only [dIsi, Kd.of, dSetA, dAsgTA, dAppA, dExt, dgLst, dParLL, qSum2_l, qSum2_t, unS_d, unS_own, unS_dk, unS_un, qLe2_i, qLe2_s, qAll_l, dExt2, dPar3, dFind3, dRevS, diEnum, dSeq, dSet, dSetL, dRet, dRetO, dRetL, dIfS, dNext, dApp, dSetIx, dVar, dC, dOp, dFn, dFnL, dCons, dNil, dArg, dArgV, onD, datas, dTup, dLst, dLstL, dOfL, dAddL, dMulL, dIf, dTest, dTru, dNot, dAnd, dOr, dNotV, dAndV, dOrV, dSl, dPart, dNoPart, dCall, dMt, qAdd_i, qAdd_s, qAdd_t, qAdd_l, qSub_i, qDiv_i, qMod_i, qPow_i, qMul_i, qMul_s, qMul_t, qMul_l, qLt_i, qLe_i, qGt_i, qGe_i, qIx_l, qIx_t, qIx_s, qSl_l, qSl_t, qSl_s, qLen_l, qLen_t, qLen_s, qInt_i, qInt_b, qMin_i, qMax_i, qTup_l, qTup_t, qLst_l, qLst_t, qTru_n, qTru_b, qTru_i, qTru_s, qTru_l, qTru_t, qSum_l, qAny_l, qAny_t, qJoin_l, qCount_s, qEq_e, qNe_e, qRepr_e, dAsgT, dNeg, qNeg_i, dgTup, dgCons, dgName, dgNil, dPar, diR1, diOwn, diSeq, diL, diZip, diZipM, diVar, dParL, startS, toS, List.map_cons, List.map_nil, List.length_cons, List.length_nil, List.replicate, List.cons_append, List.nil_append, List.append_nil, List.getElem?_cons_zero, List.getElem?_cons_succ, List.set_cons_zero, List.set_cons_succ, Nat.reduceSub, Nat.reduceAdd, wipeS, canD, if_true, if_false, ite_true, ite_false, Bool.false_eq_true, PyData.bool.injEq, exists_eq_left', exists_eq_left, shp_i, shp_s, shp_b, shp_n, shp_e, shp_z, eqv_tt, eqv_lt, eqv_i, true_and, ix0, ix1, ix2, Option.some.injEq, PyData.tuple.injEq, PyData.list.injEq, PyData.int.injEq, PyData.str.injEq, S.own.injEq]
      have lc : ∀ c, (chS c).length = 1 := fun c => rfl
      have lk := cutS_length (lw r j) none (some (-1))
      refine ⟨sz6 (by omega), sz6 (by omega), _, last_at w1, ?_⟩
      rw [eqv_s, if_pos (show decide (cutS (tx r j) (some (-1)) none = ⟨#[lastC (lw r j)]⟩) = true from hL)]
      exact ⟨sz6 (by omega), sz6 (by omega), _, last_at w1, sz6 (by omega), sz6 (by show 1 + _ ≤ _; omega), sz6 (Nat.le_of_lt (by decide : 2 < 1000000)), sz6 (Nat.le_of_lt (by decide : 1 < 1000000)), sz6 (by omega), _, last_at w1, sz6 (by show 1 + _ ≤ _; omega), k, r, j, _, _, [(_, _)], rfl, by rw [hr.1]; have := hr.2.1; omega, by have := hr.2.1; omega, Nat.le_refl 1, Nat.le_succ 1, hq⟩
    · cases hdata
      refine nm_no rfl q_join_left (nm_no rfl q_join_right (nm_no rfl q_join_out (nm_no rfl q_join_in (nm_yes rfl q_join_join fun N => ?_))))
      simp only [dRet, Mv.data]
      simp (config := { maxSteps := 1000000 }) only [dIsi, Kd.of, dSetA, dAsgTA, dAppA, dExt, dgLst, dParLL, qSum2_l, qSum2_t, unS_d, unS_own, unS_dk, unS_un, qLe2_i, qLe2_s, qAll_l, dExt2, dPar3, dFind3, dRevS, diEnum, dSeq, dSet, dSetL, dRet, dRetO, dRetL, dIfS, dNext, dApp, dSetIx, dVar, dC, dOp, dFn, dFnL, dCons, dNil, dArg, dArgV, onD, datas, dTup, dLst, dLstL, dOfL, dAddL, dMulL, dIf, dTest, dTru, dNot, dAnd, dOr, dNotV, dAndV, dOrV, dSl, dPart, dNoPart, dCall, dMt, qAdd_i, qAdd_s, qAdd_t, qAdd_l, qSub_i, qDiv_i, qMod_i, qPow_i, qMul_i, qMul_s, qMul_t, qMul_l, qLt_i, qLe_i, qGt_i, qGe_i, qIx_l, qIx_t, qIx_s, qSl_l, qSl_t, qSl_s, qLen_l, qLen_t, qLen_s, qInt_i, qInt_b, qMin_i, qMax_i, qTup_l, qTup_t, qLst_l, qLst_t, qTru_n, qTru_b, qTru_i, qTru_s, qTru_l, qTru_t, qSum_l, qAny_l, qAny_t, qJoin_l, qCount_s, qEq_e, qNe_e, qRepr_e, dAsgT, dNeg, qNeg_i, dgTup, dgCons, dgName, dgNil, dPar, diR1, diOwn, diSeq, diL, diZip, diZipM, diVar, dParL, startS, toS, List.map_cons, List.map_nil, List.length_cons, List.length_nil, List.replicate, List.cons_append, List.nil_append, List.append_nil, List.getElem?_cons_zero, List.getElem?_cons_succ, List.set_cons_zero, List.set_cons_succ, Nat.reduceSub, Nat.reduceAdd, wipeS, canD, if_true, if_false, ite_true, ite_false, Bool.false_eq_true, PyData.bool.injEq, exists_eq_left', exists_eq_left, shp_i, shp_s, shp_b, shp_n, shp_e, shp_z, eqv_tt, eqv_lt, eqv_i, true_and, ix0, ix1, ix2, Option.some.injEq, PyData.tuple.injEq, PyData.list.injEq, PyData.int.injEq, PyData.str.injEq, S.own.injEq]
      unfold joinB at hJ
      simp only [Bool.and_eq_true, decide_eq_true_eq] at hJ
      obtain ⟨h1, h2, h3⟩ := hJ
      obtain ⟨u1, u2, u3, u4, u5, u6⟩ := hr.lp h1
      rw [ll]
      rw [eqv_s, if_pos (decide_eq_true (show tx r (j + 1) = Str.ofString "" from h2)), if_pos (by rw [decide_eq_true_eq]; omega), ej]
      refine ⟨_, at_lp h1, _, ix0, rfl, ?_⟩
      rw [eqv_s, if_pos (decide_eq_true h3)]
      have hz : (List.zipWith (fun (x y : Nat) => (PyData.int (x : Int), PyData.int (y : Int))) (lf r j) (lf r (j + 1))).length ≤ 4 := by rw [List.length_zipWith]; omega
      refine lc_map2 _ n' faddB _ (zip_fI (lf r j) (lf r (j + 1))) rfl (fun R hR => ?_) (sz6 (by omega)) (fun p hp => ?_) ?_
      · simp (config := { maxSteps := 1000000 }) only [dIsi, Kd.of, dSetA, dAsgTA, dAppA, dExt, dgLst, dParLL, qSum2_l, qSum2_t, unS_d, unS_own, unS_dk, unS_un, qLe2_i, qLe2_s, qAll_l, dExt2, dPar3, dFind3, dRevS, diEnum, dSeq, dSet, dSetL, dRet, dRetO, dRetL, dIfS, dNext, dApp, dSetIx, dVar, dC, dOp, dFn, dFnL, dCons, dNil, dArg, dArgV, onD, datas, dTup, dLst, dLstL, dOfL, dAddL, dMulL, dIf, dTest, dTru, dNot, dAnd, dOr, dNotV, dAndV, dOrV, dSl, dPart, dNoPart, dCall, dMt, qAdd_i, qAdd_s, qAdd_t, qAdd_l, qSub_i, qDiv_i, qMod_i, qPow_i, qMul_i, qMul_s, qMul_t, qMul_l, qLt_i, qLe_i, qGt_i, qGe_i, qIx_l, qIx_t, qIx_s, qSl_l, qSl_t, qSl_s, qLen_l, qLen_t, qLen_s, qInt_i, qInt_b, qMin_i, qMax_i, qTup_l, qTup_t, qLst_l, qLst_t, qTru_n, qTru_b, qTru_i, qTru_s, qTru_l, qTru_t, qSum_l, qAny_l, qAny_t, qJoin_l, qCount_s, qEq_e, qNe_e, qRepr_e, dAsgT, dNeg, qNeg_i, dgTup, dgCons, dgName, dgNil, dPar, diR1, diOwn, diSeq, diL, diZip, diZipM, diVar, dParL, startS, toS, List.map_cons, List.map_nil, List.length_cons, List.length_nil, List.replicate, List.cons_append, List.nil_append, List.append_nil, List.getElem?_cons_zero, List.getElem?_cons_succ, List.set_cons_zero, List.set_cons_succ, Nat.reduceSub, Nat.reduceAdd, wipeS, canD, if_true, if_false, ite_true, ite_false, Bool.false_eq_true, PyData.bool.injEq, exists_eq_left', exists_eq_left, shp_i, shp_s, shp_b, shp_n, shp_e, shp_z, eqv_tt, eqv_lt, eqv_i, true_and, ix0, ix1, ix2, Option.some.injEq, PyData.tuple.injEq, PyData.list.injEq, PyData.int.injEq, PyData.str.injEq, S.own.injEq]
        rw [ej]
        exact ⟨_, at_lp h1, _, ix1, _, _, rfl, .inl (NL_fm _), .inl (NL_fm _), .inr ⟨_, _, rfl, rfl, hR⟩⟩
      · obtain ⟨x, y, _, _, rfl⟩ : ∃ x y : Nat, x ∈ lf r j ∧ y ∈ lf r (j + 1) ∧ p = (PyData.int (x : Int), PyData.int (y : Int)) := mem_zip hp
        refine ⟨rfl, fun R hR => ?_⟩
        simp (config := { maxSteps := 1000000 }) only [dIsi, Kd.of, dSetA, dAsgTA, dAppA, dExt, dgLst, dParLL, qSum2_l, qSum2_t, unS_d, unS_own, unS_dk, unS_un, qLe2_i, qLe2_s, qAll_l, dExt2, dPar3, dFind3, dRevS, diEnum, dSeq, dSet, dSetL, dRet, dRetO, dRetL, dIfS, dNext, dApp, dSetIx, dVar, dC, dOp, dFn, dFnL, dCons, dNil, dArg, dArgV, onD, datas, dTup, dLst, dLstL, dOfL, dAddL, dMulL, dIf, dTest, dTru, dNot, dAnd, dOr, dNotV, dAndV, dOrV, dSl, dPart, dNoPart, dCall, dMt, qAdd_i, qAdd_s, qAdd_t, qAdd_l, qSub_i, qDiv_i, qMod_i, qPow_i, qMul_i, qMul_s, qMul_t, qMul_l, qLt_i, qLe_i, qGt_i, qGe_i, qIx_l, qIx_t, qIx_s, qSl_l, qSl_t, qSl_s, qLen_l, qLen_t, qLen_s, qInt_i, qInt_b, qMin_i, qMax_i, qTup_l, qTup_t, qLst_l, qLst_t, qTru_n, qTru_b, qTru_i, qTru_s, qTru_l, qTru_t, qSum_l, qAny_l, qAny_t, qJoin_l, qCount_s, qEq_e, qNe_e, qRepr_e, dAsgT, dNeg, qNeg_i, dgTup, dgCons, dgName, dgNil, dPar, diR1, diOwn, diSeq, diL, diZip, diZipM, diVar, dParL, startS, toS, List.map_cons, List.map_nil, List.length_cons, List.length_nil, List.replicate, List.cons_append, List.nil_append, List.append_nil, List.getElem?_cons_zero, List.getElem?_cons_succ, List.set_cons_zero, List.set_cons_succ, Nat.reduceSub, Nat.reduceAdd, wipeS, canD, if_true, if_false, ite_true, ite_false, Bool.false_eq_true, PyData.bool.injEq, exists_eq_left', exists_eq_left, shp_i, shp_s, shp_b, shp_n, shp_e, shp_z, eqv_tt, eqv_lt, eqv_i, true_and, ix0, ix1, ix2, Option.some.injEq, PyData.tuple.injEq, PyData.list.injEq, PyData.int.injEq, PyData.str.injEq, S.own.injEq]
        exact hR
      · have es : ∀ f g : List Nat, List.map (fun p => faddB p.fst p.snd) (List.zipWith (fun (a b : Nat) => (PyData.int (a : Int), PyData.int (b : Int))) f g) = fI (List.zipWith (· + ·) f g) := by
          intro f
          induction f with
          | nil => intro g; simp
          | cons b r ih =>
            intro g
            cases g with
            | nil => simp
            | cons d c =>
              rw [List.zipWith_cons_cons, List.zipWith_cons_cons, List.map_cons, ih c]
              show PyData.int ((b : Int) + (d : Int)) :: _ = _
              rw [← Int.natCast_add]
              rfl
        rw [es]
        have e1 : cut (txD r.1) none (some ((j + 1 : Nat) : Int)) = txD (r.1.take (j + 1)) := by rw [cutD_to, txD, txD, List.map_take]
        have e2 : cut (txD r.1) (some ((j : Int) + 2)) none = txD (r.1.drop (j + 2)) := by rw [show (j : Int) + 2 = ((j + 2 : Nat) : Int) by omega, cutD_from, txD, txD, List.map_drop]
        have e3 : cut (lpsD r.2) none (some (j : Int)) = lpsD (r.2.take j) := by rw [cutD_to, lpsD, lpsD, List.map_take]
        have e4 : cut (lpsD r.2) (some ((j : Int) + 2)) none = lpsD (r.2.drop (j + 2)) := by rw [show (j : Int) + 2 = ((j + 2 : Nat) : Int) by omega, cutD_from, lpsD, lpsD, List.map_drop]
        have l1 : (txD (r.1.take (j + 1))).length ≤ 100 := by rw [txD, List.length_map]; have := hr.2.1; exact Nat.le_trans (List.length_take_le' _ _) (by rw [hr.1]; omega)
        have l2 : (txD (r.1.drop (j + 2))).length ≤ 100 := by rw [txD, List.length_map, List.length_drop, hr.1]; have := hr.2.1; omega
        have l3 : (lpsD (r.2.take j)).length ≤ 100 := by rw [lpsD, List.length_map]; have := hr.2.1; exact Nat.le_trans (List.length_take_le' _ _) (by omega)
        have l4 : (lpsD (r.2.drop (j + 2))).length ≤ 100 := by rw [lpsD, List.length_map, List.length_drop]; have := hr.2.1; omega
        have hq2 : Q (.tuple [.int k, .tuple (txD (r.1.take (j + 1)) ++ txD (r.1.drop (j + 2))), .tuple (lpsD (r.2.take j) ++ [.tuple [.str (lw r j), .tuple (fI (List.zipWith (· + ·) (lf r j) (lf r (j + 1))))]] ++ lpsD (r.2.drop (j + 2)))]) n' := by
          have e6 : rowD k (joinR r j) = .tuple [.int k, .tuple (txD (r.1.take (j + 1)) ++ txD (r.1.drop (j + 2))), .tuple (lpsD (r.2.take j) ++ [.tuple [.str (lw r j), .tuple (fI (List.zipWith (· + ·) (lf r j) (lf r (j + 1))))]] ++ lpsD (r.2.drop (j + 2)))] := by
            simp only [rowD, joinR, txD, lpsD, List.map_append, List.map_cons, List.map_nil]
            rfl
          rw [← e6]
          exact hq
        simp only [e1, e2, e3, e4, List.length_append, List.length_singleton]
        exact ⟨.inl (NL_fm _), sz6 (by omega), sz6 (by decide), sz6 (by decide), sz6 (by omega), sz6 (by omega), sz6 (by decide), hq2⟩
end
end Law

namespace Law
open PySem PySem.Spec PyProof.Rows L2 Ev
/-! ### rows on the way to the plain one -/
def csum (ls : List (Str × List Nat)) : Nat := (ls.map fun p => p.1.length * p.2.headD 0).sum
def wsm (ls : List (Str × List Nat)) : Nat := (ls.map fun p => p.1.length).sum
def msm (ls : List (Str × List Nat)) : Nat := (ls.map fun p => p.1.length * p.2.sum).sum
def lsm (ts : List Str) : Nat := (ts.map fun z => z.length).sum
def posL : List Str → Nat
  | [] => 0
  | z :: ts => z.length * ts.length + posL ts
def rank (r : Rw) : Nat := posL r.1 + 13 * csum r.2 + wsm r.2 + r.2.length
def lpI (k : Nat) (p : Str × List Nat) : Prop := p.1 ≠ nilS ∧ abc p.1 ∧ p.2.length = k + 1 ∧ isOpen p.2 = true
def PI (k S M : Nat) (r : Rw) : Prop := r.1.length = r.2.length + 1 ∧ r.2.length ≤ 12 ∧ (∀ z ∈ r.1, abc z) ∧ (∀ p ∈ r.2, lpI k p) ∧ lsm r.1 + csum r.2 ≤ S ∧ wsm r.2 ≤ S ∧ msm r.2 ≤ M
theorem lsm_app (a b : List Str) : lsm (a ++ b) = lsm a + lsm b := by unfold lsm; rw [List.map_append, List.sum_append]
theorem lsm_cons (z : Str) (b : List Str) : lsm (z :: b) = z.length + lsm b := rfl
theorem csum_app (a b : List (Str × List Nat)) : csum (a ++ b) = csum a + csum b := by unfold csum; rw [List.map_append, List.sum_append]
theorem csum_cons (p : Str × List Nat) (b : List (Str × List Nat)) : csum (p :: b) = p.1.length * p.2.headD 0 + csum b := rfl
theorem wsm_app (a b : List (Str × List Nat)) : wsm (a ++ b) = wsm a + wsm b := by unfold wsm; rw [List.map_append, List.sum_append]
theorem wsm_cons (p : Str × List Nat) (b : List (Str × List Nat)) : wsm (p :: b) = p.1.length + wsm b := rfl
theorem msm_app (a b : List (Str × List Nat)) : msm (a ++ b) = msm a + msm b := by unfold msm; rw [List.map_append, List.sum_append]
theorem msm_cons (p : Str × List Nat) (b : List (Str × List Nat)) : msm (p :: b) = p.1.length * p.2.sum + msm b := rfl
theorem posL_le : ∀ ts : List Str, posL ts ≤ lsm ts * ts.length
  | [] => Nat.zero_le _
  | z :: ts => by
    have := posL_le ts
    rw [posL, lsm_cons, List.length_cons, Nat.add_mul, Nat.mul_succ, Nat.mul_succ]
    omega
theorem posL_app (X Y : List Str) (h : X.length = Y.length) : ∀ A : List Str, posL (A ++ X) + posL Y = posL (A ++ Y) + posL X
  | [] => by simp only [List.nil_append]; omega
  | z :: A => by
    have ih := posL_app X Y h A
    have e : (A ++ X).length = (A ++ Y).length := by rw [List.length_append, List.length_append, h]
    rw [List.cons_append, List.cons_append, posL, posL, e]
    omega
theorem posL_drop (B : List Str) : ∀ A : List Str, posL (A ++ B) ≤ posL (A ++ nilS :: B)
  | [] => by rw [List.nil_append, List.nil_append, posL]; omega
  | z :: A => by
    have ih := posL_drop B A
    have e : (A ++ B).length ≤ (A ++ nilS :: B).length := by rw [List.length_append, List.length_append, List.length_cons]; omega
    have e2 := Nat.mul_le_mul_left z.length e
    rw [List.cons_append, List.cons_append, posL, posL]
    omega
theorem mem_lsm {z : Str} : ∀ {ts : List Str}, z ∈ ts → z.length ≤ lsm ts
  | y :: ts, h => by
    rw [lsm_cons]
    rcases List.mem_cons.mp h with e | h
    · rw [e]; omega
    · have := mem_lsm h
      omega
theorem mem_wsm {p : Str × List Nat} : ∀ {ls : List (Str × List Nat)}, p ∈ ls → p.1.length ≤ wsm ls ∧ p.1.length * p.2.sum ≤ msm ls
  | q :: ls, h => by
    rw [wsm_cons, msm_cons]
    rcases List.mem_cons.mp h with e | h
    · rw [e]; exact ⟨by omega, by omega⟩
    · have := mem_wsm h
      exact ⟨by omega, by omega⟩
theorem mem_sum {x : Nat} : ∀ {l : List Nat}, x ∈ l → x ≤ l.sum
  | y :: l, h => by
    rw [List.sum_cons]
    rcases List.mem_cons.mp h with e | h
    · rw [e]; omega
    · have := mem_sum h
      omega
theorem PI.rk {k S M : Nat} {r : Rw} (h : PI k S M r) (hM : M ≤ 10 ^ 15) : Rk k S r := by
  obtain ⟨h1, h2, h3, h4, h5, h6, h7⟩ := h
  refine ⟨h1, by omega, fun z hz => ⟨h3 z hz, by have := mem_lsm hz; omega⟩, fun p hp => ?_⟩
  obtain ⟨g1, g2, g3, g4⟩ := h4 p hp
  obtain ⟨b1, b2⟩ := mem_wsm hp
  refine ⟨g1, g2, by omega, g3, g4, fun x hx => ?_⟩
  have a1 := mem_sum hx
  have a2 := len_pos g1
  have a3 : 1 * p.2.sum ≤ p.1.length * p.2.sum := Nat.mul_le_mul_right _ a2
  omega
/-! a row about a loop -/
theorem row_split {r : Rw} {j : Nat} (hl : r.1.length = r.2.length + 1) (hj : j < r.2.length) : ∃ A B P Q, r = (A ++ tx r j :: tx r (j + 1) :: B, P ++ (lw r j, lf r j) :: Q) ∧ A.length = j ∧ P.length = j := by
  have h1 : j < r.1.length := by omega
  have h2 : j + 1 < r.1.length := by omega
  refine ⟨r.1.take j, r.1.drop (j + 2), r.2.take j, r.2.drop (j + 1), ?_, by rw [List.length_take]; omega, by rw [List.length_take]; omega⟩
  have e1 : tx r j = r.1[j] := by unfold tx; rw [List.getD_eq_getElem?_getD, List.getElem?_eq_getElem h1]; rfl
  have e2 : tx r (j + 1) = r.1[j + 1] := by unfold tx; rw [List.getD_eq_getElem?_getD, List.getElem?_eq_getElem h2]; rfl
  have e3 : (lw r j, lf r j) = r.2[j] := by unfold lw lf; rw [List.getD_eq_getElem?_getD, List.getElem?_eq_getElem hj]; rfl
  rw [e1, e2, e3, ← List.drop_eq_getElem_cons h2, ← List.drop_eq_getElem_cons h1, List.take_append_drop, ← List.drop_eq_getElem_cons hj, List.take_append_drop]
theorem put_split {A B : List Str} {a b a' b' : Str} {P Q ps : List (Str × List Nat)} {p : Str × List Nat} {j : Nat} (hA : A.length = j) (hP : P.length = j) : putR (A ++ a :: b :: B, P ++ p :: Q) j a' ps b' = (A ++ a' :: (List.replicate (ps.length - 1) nilS ++ b' :: B), P ++ ps ++ Q) := by
  have e1 : (A ++ a :: b :: B).take j = A := by rw [← hA, List.take_left]
  have e2 : (A ++ a :: b :: B).drop (j + 2) = B := by rw [← hA, ← List.drop_drop, List.drop_left]; rfl
  have e3 : (P ++ p :: Q).take j = P := by rw [← hP, List.take_left]
  have e4 : (P ++ p :: Q).drop (j + 1) = Q := by rw [← hP, ← List.drop_drop, List.drop_left]; rfl
  unfold putR
  simp only [e1, e2, e3, e4, List.append_assoc, List.cons_append, List.nil_append]
theorem open_sum (f : List Nat) : isOpen f = decide (f.tail.sum ≠ 0) := any_sum f.tail
theorem isOpen_mul {f : List Nat} {n : Nat} (hn : 1 ≤ n) (h : isOpen f = true) : isOpen (f.map (· * n)) = true := by
  rw [open_sum, decide_eq_true_eq] at h ⊢
  rw [← List.map_tail]
  have : ∀ l : List Nat, (l.map (· * n)).sum = l.sum * n := fun l => by
    induction l with
    | nil => simp
    | cons a l ih => rw [List.map_cons, List.sum_cons, List.sum_cons, ih, Nat.add_mul]
  rw [this]
  exact Nat.mul_ne_zero h (by omega)
theorem sum_mul (n : Nat) (l : List Nat) : (l.map (· * n)).sum = l.sum * n := by
  induction l with
  | nil => simp
  | cons a l ih => rw [List.map_cons, List.sum_cons, List.sum_cons, ih, Nat.add_mul]
theorem head_mul (n : Nat) (l : List Nat) : (l.map (· * n)).headD 0 = l.headD 0 * n := by cases l <;> simp
theorem sum_zip : ∀ f g : List Nat, f.length = g.length → (List.zipWith (· + ·) f g).sum = f.sum + g.sum
  | [], [], _ => rfl
  | a :: f, b :: g, h => by
    have ih := sum_zip f g (by simpa using h)
    rw [List.zipWith_cons_cons, List.sum_cons, List.sum_cons, List.sum_cons, ih]
    omega
  | [], _ :: _, h => by simp at h
  | _ :: _, [], h => by simp at h
theorem head_sum {f : List Nat} (h : f.length ≠ 0) : f.sum = f.headD 0 + f.tail.sum := by
  cases f with
  | nil => exact absurd rfl h
  | cons a r => simp
theorem rt_len {w : Str} {n : Nat} (hR : isRt w n = true) : n * (w.length / n) = w.length := by
  have h := congrArg List.length (rt_iff.mp hR)
  rw [rp_len, List.length_take, ← str_len] at h
  have h2 : w.length / n ≤ w.length := Nat.div_le_self _ _
  rw [Nat.min_eq_left h2] at h
  exact h
theorem abc_cut {z : Str} (h : abc z) (lo hi : Option Int) : abc (cutS z lo hi) := fun c hc => by
  rw [cutS_list] at hc
  exact h c (List.mem_of_mem_drop (List.mem_of_mem_take hc))
end Law

namespace Law
open PySem PySem.Spec PyProof.Rows L2 Ev
/-! ### a step towards the plain row -/
theorem rank_small {k S M : Nat} {r : Rw} (h : PI k S M r) : rank r ≤ 27 * S + 12 := by
  obtain ⟨h1, h2, h3, h4, h5, h6, h7⟩ := h
  have a := posL_le r.1
  have b : lsm r.1 * r.1.length ≤ lsm r.1 * 13 := Nat.mul_le_mul_left _ (by omega)
  unfold rank
  omega
theorem step_of {k S M : Nat} {r r' : Rw} (h' : PI k S M r') (hd : rank r' < rank r) : PI k S M r' ∧ rank r' < rank r := ⟨h', hd⟩
theorem cut_step {k S M : Nat} {r : Rw} {m : Mv} (h : PI k S M r) (hm : m ∈ cuts r) : PI k S M (cutR r m) ∧ rank (cutR r m) < rank r := by
  obtain ⟨j, hj, hmm⟩ := mem_cuts hm
  obtain ⟨h1, h2, h3, h4, h5, h6, h7⟩ := id h
  obtain ⟨A, B, P, Q, er, hA, hP⟩ := row_split h1 hj
  rcases hmm with ⟨n, rfl, n2, nw, hR⟩ | ⟨rfl, h0⟩ | ⟨rfl, hL⟩ | ⟨rfl, hJ⟩
  · -- root
    obtain ⟨a, ha⟩ : ∃ a, a = tx r j := ⟨_, rfl⟩
    obtain ⟨b, hb⟩ : ∃ b, b = tx r (j + 1) := ⟨_, rfl⟩
    obtain ⟨w, hw⟩ : ∃ w, w = lw r j := ⟨_, rfl⟩
    obtain ⟨f, hf⟩ : ∃ f, f = lf r j := ⟨_, rfl⟩
    have e : cutR r (.root j n) = (A ++ a :: (List.replicate 0 nilS ++ b :: B), P ++ [(cutS w none (some ((w.length / n : Nat) : Int)), f.map (· * n))] ++ Q) := by
      show putR r j (tx r j) [(cutS (lw r j) none (some (((lw r j).length / n : Nat) : Int)), (lf r j).map (· * n))] (tx r (j + 1)) = _
      rw [← ha, ← hb, ← hw, ← hf]
      conv => lhs; rw [er]
      rw [put_split hA hP]
      rfl
    rw [← ha, ← hb, ← hw, ← hf] at er
    rw [← hw] at nw hR
    rw [e]
    rw [er] at h1 h2 h3 h4 h5 h6 h7 h ⊢
    obtain ⟨g1, g2, g3, g4⟩ := h4 (w, f) (by simp)
    have hlen := rt_len hR
    have lcut : (cutS w none (some ((w.length / n : Nat) : Int))).length = w.length / n := by
      rw [str_len, cut_to, List.length_take, ← str_len]
      exact Nat.min_eq_left (Nat.div_le_self _ _)
    have lpos : 1 ≤ w.length / n := Nat.div_pos nw (by omega)
    have hdiv : w.length / n < w.length := Nat.div_lt_self (by omega) (by omega)
    have eC : (w.length / n) * ((f.map (· * n)).headD 0) = w.length * f.headD 0 := by
      rw [head_mul, ← hlen, Nat.mul_comm (f.headD 0) n, ← Nat.mul_assoc, hlen, Nat.mul_comm (w.length / n) n, hlen]
    have eM : (w.length / n) * ((f.map (· * n)).sum) = w.length * f.sum := by
      rw [sum_mul, ← hlen, Nat.mul_comm f.sum n, ← Nat.mul_assoc, hlen, Nat.mul_comm (w.length / n) n, hlen]
    simp only [List.replicate, List.nil_append, List.append_assoc, List.cons_append, List.singleton_append] at h1 h2 h3 h4 h5 h6 h7 ⊢
    refine step_of ⟨?_, ?_, ?_, ?_, ?_, ?_, ?_⟩ ?_
    · simp only [List.length_append, List.length_cons] at h1 ⊢; omega
    · simp only [List.length_append, List.length_cons] at h2 ⊢; omega
    · exact h3
    · intro p hp
      simp only [List.mem_append, List.mem_cons] at hp
      rcases hp with hp | rfl | hp
      · exact h4 p (by simp [hp])
      · refine ⟨fun hn => ?_, abc_cut g2 _ _, by rw [List.length_map]; exact g3, isOpen_mul (by omega) g4⟩
        have := congrArg Str.length (show cutS w none (some ((w.length / n : Nat) : Int)) = nilS from hn)
        rw [lcut, show nilS.length = 0 by decide] at this
        omega
      · exact h4 p (by simp [hp])
    · simp only [csum_app, csum_cons, lcut, eC] at h5 ⊢; exact h5
    · simp only [wsm_app, wsm_cons, lcut] at h6 ⊢; omega
    · simp only [msm_app, msm_cons, lcut, eM] at h7 ⊢; exact h7
    · simp only [rank, csum_app, csum_cons, eC, wsm_app, wsm_cons, lcut, List.length_append, List.length_cons]; omega
  · -- out
    obtain ⟨a, ha⟩ : ∃ a, a = tx r j := ⟨_, rfl⟩
    obtain ⟨b, hb⟩ : ∃ b, b = tx r (j + 1) := ⟨_, rfl⟩
    obtain ⟨w, hw⟩ : ∃ w, w = lw r j := ⟨_, rfl⟩
    obtain ⟨f, hf⟩ : ∃ f, f = lf r j := ⟨_, rfl⟩
    have e : cutR r (.out j) = (A ++ a :: (List.replicate 0 nilS ++ (w ++ b) :: B), P ++ [(w, (f.headD 0 - 1) :: f.tail)] ++ Q) := by
      show putR r j (tx r j) [(lw r j, ((lf r j).headD 0 - 1) :: (lf r j).tail)] (lw r j ++ tx r (j + 1)) = _
      rw [← ha, ← hb, ← hw, ← hf]
      conv => lhs; rw [er]
      rw [put_split hA hP]
      rfl
    rw [← ha, ← hb, ← hw, ← hf] at er
    rw [← hf] at h0
    rw [e]
    rw [er] at h1 h2 h3 h4 h5 h6 h7 h ⊢
    obtain ⟨g1, g2, g3, g4⟩ := h4 (w, f) (by simp)
    have lpos : 1 ≤ w.length := len_pos g1
    have hsum := head_sum (f := f) (by have : f.length = k + 1 := g3; omega)
    have eC : w.length * f.headD 0 = w.length * (f.headD 0 - 1) + w.length := by
      obtain ⟨c, hc⟩ : ∃ c, f.headD 0 = c + 1 := ⟨f.headD 0 - 1, by omega⟩
      rw [hc, Nat.mul_succ, Nat.add_sub_cancel]
    have eM : w.length * ((f.headD 0 - 1) :: f.tail).sum ≤ w.length * f.sum := Nat.mul_le_mul_left _ (by rw [List.sum_cons]; omega)
    have eH : ((f.headD 0 - 1) :: f.tail).headD 0 = f.headD 0 - 1 := rfl
    simp only [List.replicate, List.nil_append, List.append_assoc, List.cons_append, List.singleton_append] at h1 h2 h3 h4 h5 h6 h7 ⊢
    refine step_of ⟨?_, ?_, ?_, ?_, ?_, ?_, ?_⟩ ?_
    · simp only [List.length_append, List.length_cons] at h1 ⊢; omega
    · simp only [List.length_append, List.length_cons] at h2 ⊢; omega
    · intro z hz
      simp only [List.mem_append, List.mem_cons] at hz
      rcases hz with hz | rfl | rfl | hz
      · exact h3 z (by simp [hz])
      · exact h3 z (by simp)
      · exact abc_app g2 (h3 b (by simp))
      · exact h3 z (by simp [hz])
    · intro p hp
      simp only [List.mem_append, List.mem_cons] at hp
      rcases hp with hp | rfl | hp
      · exact h4 p (by simp [hp])
      · refine ⟨g1, g2, ?_, ?_⟩
        · have g3 : f.length = k + 1 := g3
          show f.tail.length + 1 = k + 1
          rw [List.length_tail]; omega
        · have g4 : isOpen f = true := g4
          rw [open_sum] at g4 ⊢
          exact g4
      · exact h4 p (by simp [hp])
    · simp only [csum_app, csum_cons, lsm_app, lsm_cons, app_len, eH] at h5 ⊢; omega
    · simp only [wsm_app, wsm_cons] at h6 ⊢; omega
    · simp only [msm_app, msm_cons] at h7 ⊢; omega
    · have hp := posL_app (a :: b :: B) (a :: (w ++ b) :: B) rfl A
      simp only [posL, List.length_cons, app_len] at hp
      have lB : B.length ≤ 11 := by simp only [List.length_append, List.length_cons] at h1 h2; omega
      have e1 : (w.length + b.length) * B.length = w.length * B.length + b.length * B.length := Nat.add_mul _ _ _
      have e2 : w.length * B.length ≤ w.length * 11 := Nat.mul_le_mul_left _ lB
      simp only [rank, csum_app, csum_cons, eH, wsm_app, wsm_cons, List.length_append, List.length_cons]
      omega
  · -- left
    obtain ⟨a, ha⟩ : ∃ a, a = tx r j := ⟨_, rfl⟩
    obtain ⟨b, hb⟩ : ∃ b, b = tx r (j + 1) := ⟨_, rfl⟩
    obtain ⟨w, hw⟩ : ∃ w, w = lw r j := ⟨_, rfl⟩
    obtain ⟨f, hf⟩ : ∃ f, f = lf r j := ⟨_, rfl⟩
    have e : cutR r (.left j) = (A ++ cutS a none (some (-1)) :: (List.replicate 0 nilS ++ (chS (lastC w) ++ b) :: B), P ++ [(chS (lastC w) ++ cutS w none (some (-1)), f)] ++ Q) := by
      show putR r j (cutS (tx r j) none (some (-1))) [(chS (lastC (lw r j)) ++ cutS (lw r j) none (some (-1)), lf r j)] (chS (lastC (lw r j)) ++ tx r (j + 1)) = _
      rw [← ha, ← hb, ← hw, ← hf]
      conv => lhs; rw [er]
      rw [put_split hA hP]
      rfl
    rw [← ha, ← hb, ← hw, ← hf] at er
    have hL2 := (left_iff _ _).mp (of_decide_eq_true hL)
    rw [← ha, ← hw] at hL2
    rw [e]
    rw [er] at h1 h2 h3 h4 h5 h6 h7 h ⊢
    obtain ⟨g1, g2, g3, g4⟩ := h4 (w, f) (by simp)
    have lpos : 1 ≤ w.length := len_pos g1
    have apos := len_pos hL2.1
    have la : (cutS a none (some (-1))).length = a.length - 1 := by rw [str_len, cut_but1, List.length_dropLast, ← str_len]
    have lw' : (chS (lastC w) ++ cutS w none (some (-1))).length = w.length := by
      rw [app_len, str_len (cutS w none (some (-1))), cut_but1, List.length_dropLast, ← str_len]
      show 1 + (w.length - 1) = w.length
      omega
    have lb : (chS (lastC w) ++ b).length = 1 + b.length := app_len _ _
    have hch : abc (chS (lastC w)) := fun c hc => by
      have hc : c = lastC w := List.mem_singleton.mp hc
      have hz : w.cps.toList ≠ [] := fun e => g1 (nil_iff.mpr e)
      have e2 := last_split hz
      refine g2 c ?_
      rw [hc]
      show lastC w ∈ w.cps.toList
      rw [e2]
      exact List.mem_append_right _ (List.mem_singleton.mpr rfl)
    simp only [List.replicate, List.nil_append, List.append_assoc, List.cons_append, List.singleton_append] at h1 h2 h3 h4 h5 h6 h7 ⊢
    refine step_of ⟨?_, ?_, ?_, ?_, ?_, ?_, ?_⟩ ?_
    · simp only [List.length_append, List.length_cons] at h1 ⊢; omega
    · simp only [List.length_append, List.length_cons] at h2 ⊢; omega
    · intro z hz
      simp only [List.mem_append, List.mem_cons] at hz
      rcases hz with hz | rfl | rfl | hz
      · exact h3 z (by simp [hz])
      · exact abc_cut (h3 a (by simp)) _ _
      · exact abc_app hch (h3 b (by simp))
      · exact h3 z (by simp [hz])
    · intro p hp
      simp only [List.mem_append, List.mem_cons] at hp
      rcases hp with hp | rfl | hp
      · exact h4 p (by simp [hp])
      · refine ⟨fun hn => ?_, abc_app hch (abc_cut g2 _ _), g3, g4⟩
        have := congrArg Str.length (show chS (lastC w) ++ cutS w none (some (-1)) = nilS from hn)
        rw [lw', show nilS.length = 0 by decide] at this
        omega
      · exact h4 p (by simp [hp])
    · simp only [csum_app, csum_cons, lsm_app, lsm_cons, lw', la, lb] at h5 ⊢; omega
    · simp only [wsm_app, wsm_cons, lw'] at h6 ⊢; omega
    · simp only [msm_app, msm_cons, lw'] at h7 ⊢; omega
    · have hp := posL_app (a :: b :: B) (cutS a none (some (-1)) :: (chS (lastC w) ++ b) :: B) rfl A
      simp only [posL, List.length_cons, la, lb] at hp
      have e1 : a.length * (B.length + 1) = (a.length - 1) * (B.length + 1) + (B.length + 1) := by
        obtain ⟨q, hq⟩ : ∃ q, a.length = q + 1 := ⟨a.length - 1, by omega⟩
        rw [hq, Nat.add_sub_cancel, Nat.succ_mul]
      have e2 : (1 + b.length) * B.length = B.length + b.length * B.length := by rw [Nat.add_mul, Nat.one_mul]
      simp only [rank, csum_app, csum_cons, lw', wsm_app, wsm_cons, List.length_append, List.length_cons]
      omega
  · -- join
    unfold joinB at hJ
    simp only [Bool.and_eq_true, decide_eq_true_eq] at hJ
    obtain ⟨i1, i2, i3⟩ := hJ
    obtain ⟨a, ha⟩ : ∃ a, a = tx r j := ⟨_, rfl⟩
    obtain ⟨w, hw⟩ : ∃ w, w = lw r j := ⟨_, rfl⟩
    obtain ⟨f, hf⟩ : ∃ f, f = lf r j := ⟨_, rfl⟩
    obtain ⟨g, hg⟩ : ∃ g, g = lf r (j + 1) := ⟨_, rfl⟩
    obtain ⟨Q', hQ⟩ : ∃ Q', Q = (w, g) :: Q' := by
      have e2 : r.2 = P ++ (lw r j, lf r j) :: Q := congrArg Prod.snd er
      have e3 : (lw r (j + 1), lf r (j + 1)) = r.2.getD (j + 1) (nilS, []) := rfl
      rw [i3, ← hw, ← hg] at e3
      have hlq : 0 < Q.length := by
        have := congrArg List.length e2
        rw [List.length_append, List.length_cons] at this
        omega
      cases Q with
      | nil => cases hlq
      | cons q Q' =>
        refine ⟨Q', ?_⟩
        rw [e2, List.getD_eq_getElem?_getD, List.getElem?_append_right (by omega), show j + 1 - P.length = 1 by omega] at e3
        have e4 : (w, g) = q := e3
        rw [e4]
    rw [hQ] at er
    have e : cutR r (.join j) = (A ++ a :: B, P ++ (w, List.zipWith (· + ·) f g) :: Q') := by
      show (r.1.take (j + 1) ++ r.1.drop (j + 2), r.2.take j ++ [(lw r j, List.zipWith (· + ·) (lf r j) (lf r (j + 1)))] ++ r.2.drop (j + 2)) = _
      rw [← hw, ← hf, ← hg]
      have e1 : r.1 = A ++ a :: tx r (j + 1) :: B := by rw [ha]; exact congrArg Prod.fst er
      have e2 : r.2 = P ++ (lw r j, lf r j) :: (w, g) :: Q' := congrArg Prod.snd er
      have t1 : r.1.take (j + 1) = A ++ [a] := by
        rw [e1, show A ++ a :: tx r (j + 1) :: B = (A ++ [a]) ++ tx r (j + 1) :: B by simp]
        exact List.take_left' (by rw [List.length_append, List.length_singleton, hA])
      have t2 : r.1.drop (j + 2) = B := by
        rw [e1, show A ++ a :: tx r (j + 1) :: B = (A ++ [a, tx r (j + 1)]) ++ B by simp]
        exact List.drop_left' (by rw [List.length_append, hA]; rfl)
      have t3 : r.2.take j = P := by rw [e2]; exact List.take_left' hP
      have t4 : r.2.drop (j + 2) = Q' := by
        rw [e2, show P ++ (lw r j, lf r j) :: (w, g) :: Q' = (P ++ [(lw r j, lf r j), (w, g)]) ++ Q' by simp]
        exact List.drop_left' (by rw [List.length_append, hP]; rfl)
      rw [t1, t2, t3, t4]
      simp
    rw [← ha, ← hw, ← hf, i2] at er
    rw [e]
    rw [er] at h1 h2 h3 h4 h5 h6 h7 h ⊢
    obtain ⟨g1, g2, g3, g4⟩ := h4 (w, f) (by simp)
    obtain ⟨_, _, u3, u4⟩ := h4 (w, g) (by simp)
    have g3 : f.length = k + 1 := g3
    have u3 : g.length = k + 1 := u3
    have lpos : 1 ≤ w.length := len_pos g1
    have hz := sum_zip f g (by omega)
    have eH : (List.zipWith (· + ·) f g).headD 0 = f.headD 0 + g.headD 0 := by
      cases f with
      | nil => simp at g3
      | cons x f =>
        cases g with
        | nil => simp at u3
        | cons y g => rfl
    have n0 : nilS.length = 0 := by decide
    refine step_of ⟨?_, ?_, ?_, ?_, ?_, ?_, ?_⟩ ?_
    · simp only [List.length_append, List.length_cons] at h1 ⊢; omega
    · simp only [List.length_append, List.length_cons] at h2 ⊢; omega
    · intro z hz
      simp only [List.mem_append, List.mem_cons] at hz
      rcases hz with hz | rfl | hz
      · exact h3 z (by simp [hz])
      · exact h3 z (by simp)
      · exact h3 z (by simp [hz])
    · intro p hp
      simp only [List.mem_append, List.mem_cons] at hp
      rcases hp with hp | rfl | hp
      · exact h4 p (by simp [hp])
      · refine ⟨g1, g2, by rw [List.length_zipWith]; omega, ?_⟩
        have g4 : isOpen f = true := g4
        show isOpen (List.zipWith (· + ·) f g) = true
        rw [open_sum, decide_eq_true_eq] at g4 ⊢
        have s1 := head_sum (f := f) (by omega)
        have s2 := head_sum (f := g) (by omega)
        have s3 := head_sum (f := List.zipWith (· + ·) f g) (by rw [List.length_zipWith]; omega)
        rw [eH, hz] at s3
        omega
      · exact h4 p (by simp [hp])
    · simp only [csum_app, csum_cons, lsm_app, lsm_cons, n0, eH, Nat.mul_add] at h5 ⊢; omega
    · simp only [wsm_app, wsm_cons] at h6 ⊢; omega
    · simp only [msm_app, msm_cons, hz, Nat.mul_add] at h7 ⊢; omega
    · have hp := posL_drop B (A ++ [a])
      simp only [List.append_assoc, List.cons_append, List.nil_append] at hp
      simp only [rank, csum_app, csum_cons, eH, Nat.mul_add, wsm_app, wsm_cons, List.length_append, List.length_cons]
      omega
end Law

namespace Law
open PySem PySem.Spec PyProof.Rows L2 Ev
/-! ### depths -/
theorem depthAll_le {m : Nat} : ∀ {xs : List PyData}, (∀ x ∈ xs, x.depth ≤ m) → PyData.depthAll xs ≤ m
  | [], _ => by simp [PyData.depthAll]
  | x :: r, h => by
    have h1 := depthAll_le (xs := r) fun y hy => h y (List.mem_cons_of_mem _ hy)
    have h2 := h x List.mem_cons_self
    simp only [PyData.depthAll]
    omega
theorem depth_t {xs : List PyData} {m : Nat} (h : ∀ x ∈ xs, x.depth ≤ m) : (PyData.tuple xs).depth ≤ m + 1 := by
  simp only [PyData.depth]
  have := depthAll_le h
  omega
theorem depth_l {xs : List PyData} {m : Nat} (h : ∀ x ∈ xs, x.depth ≤ m) : (PyData.list xs).depth ≤ m + 1 := by
  simp only [PyData.depth]
  have := depthAll_le h
  omega
theorem eqv_nil (xs : List PyData) : PyData.eqv (.list xs) (.list []) = xs.isEmpty := by cases xs <;> simp [PyData.eqv, PyData.eqvAll]
theorem ok_list {l : List PyData} (h : ∀ x ∈ l, nice x = true ∧ x.depth ≤ 60) : okD (.list l) = true := by
  refine okD_nice (by simp only [nice]; exact niceA_iff.mpr fun x hx => (h x hx).1) ?_
  have := depthAll_le (m := 60) fun x hx => (h x hx).2
  simp only [PyData.depth]
  omega
end Law

namespace Law
open PySem PySem.Spec PyProof.Rows L2 Ev
/-! ### forms and words by repr -/
theorem sok_lit (x : Str) (h : (x.cps.toList.all fun c => decide (c < 1114112)) = true) : PyData.strOk x = true := by
  unfold PyData.strOk
  rw [Array.all_eq_true_iff_forall_mem]
  intro c hc
  exact List.all_eq_true.mp h c (Array.mem_toList_iff.mpr hc)
theorem sok_abc {z : Str} (h : abc z) : PyData.strOk z = true := sok_lit z (List.all_eq_true.mpr fun c hc => decide_eq_true (by have := h c hc; omega))
theorem nice_fm {f : List Nat} (h : ∀ x ∈ f, x ≤ 10 ^ 60) : nice (fmD f) = true := by
  simp only [fmD, nice]
  exact niceA_iff.mpr fun d hd => by
    obtain ⟨x, hx, rfl⟩ := List.mem_map.mp hd
    exact nice_nat (h x hx)
theorem wt_fm (f : List Nat) : wt (fmD f) ≤ 1924 * f.length + 3 := by
  simp only [fmD, wt]
  have := wtA_le (c := 1922) (xs := f.map fun (x : Nat) => PyData.int (x : Int)) fun d hd => by
    obtain ⟨x, _, rfl⟩ := List.mem_map.mp hd
    exact Nat.le_refl _
  rw [List.length_map] at this
  omega
theorem depth_fm (f : List Nat) : (fmD f).depth ≤ 1 := by
  simp only [fmD, PyData.depth]
  have := depthA_le (c := 0) (xs := f.map fun (x : Nat) => PyData.int (x : Int)) fun d hd => by
    obtain ⟨x, _, rfl⟩ := List.mem_map.mp hd
    simp [PyData.depth]
  omega
theorem shows_fm {f : List Nat} (h : ∀ x ∈ f, x ≤ 10 ^ 60) (hl : f.length ≤ 4) : shows (fmD f) := shows_of (nice_fm h) (Nat.le_trans (depth_fm f) (by decide)) (by have := wt_fm f; omega)
theorem abc_rep {z : Str} (h : abc z) (n : Nat) : abc (srep z n) := fun c hc => by
  rw [srep_list] at hc
  obtain ⟨l, hl, hc⟩ := List.mem_flatten.mp hc
  rw [List.eq_of_mem_replicate hl] at hc
  exact h c hc
theorem srep_len (z : Str) (n : Nat) : (srep z n).length = n * z.length := by rw [str_len, srep_list, List.length_flatten, List.map_replicate, List.sum_replicate_nat, ← str_len]
end Law

namespace Law
open PySem PySem.Spec PyProof.Rows L2 Ev
/-! ### made plain -/
theorem nice_small {j : Nat} (h : j ≤ 1000) : nice (.int (j : Int)) = true := nice_nat (Nat.le_trans h (by decide))
theorem mv_nice {r : Rw} {m : Mv} {Z : Nat} (hl : r.2.length ≤ 12) (hw : ∀ j, (lw r j).length ≤ Z) (hZ : Z ≤ 900) (h : m ∈ cuts r) : nice m.data = true ∧ m.data.depth ≤ 60 := by
  obtain ⟨j, hj, hmm⟩ := mem_cuts h
  have h1 := nice_small (j := j) (by omega)
  rcases hmm with ⟨n, rfl, n2, nw, _⟩ | ⟨rfl, _⟩ | ⟨rfl, _⟩ | ⟨rfl, _⟩
  · have h2 := nice_small (j := n) (by have := hw j; omega)
    refine ⟨?_, by simp [Mv.data, PyData.depth, PyData.depthAll]⟩
    simp only [Mv.data, nice, niceA, sok_lit (Str.ofString "root") (by decide +kernel), Bool.true_and, Bool.and_true] at h1 h2 ⊢
    rw [h1, h2]
    rfl
  · refine ⟨?_, by simp [Mv.data, PyData.depth, PyData.depthAll]⟩
    simp only [Mv.data, nice, niceA, sok_lit (Str.ofString "out") (by decide +kernel), Bool.true_and, Bool.and_true] at h1 ⊢
    exact h1
  · refine ⟨?_, by simp [Mv.data, PyData.depth, PyData.depthAll]⟩
    simp only [Mv.data, nice, niceA, sok_lit (Str.ofString "left") (by decide +kernel), Bool.true_and, Bool.and_true] at h1 ⊢
    exact h1
  · refine ⟨?_, by simp [Mv.data, PyData.depth, PyData.depthAll]⟩
    simp only [Mv.data, nice, niceA, sok_lit (Str.ofString "join") (by decide +kernel), Bool.true_and, Bool.and_true] at h1 ⊢
    exact h1
theorem PI.lw {k Z M : Nat} {r : Rw} (h : PI k Z M r) (j : Nat) : (Law.lw r j).length ≤ Z := by
  unfold Law.lw
  rw [List.getD_eq_getElem?_getD]
  cases hj : r.2[j]? with
  | none => exact Nat.zero_le _
  | some p =>
    have := (mem_wsm (List.mem_of_getElem? hj)).1
    have := h.2.2.2.2.2.1
    show p.1.length ≤ Z
    omega
section
variable {P : Program} {w : World} {K : PySem.W.Frag} {mg : Str → Option Value} {base : Heap}
def F_plain : DF := fun as n Q => ∃ (k Z M : Nat) (r : Rw), as = [.dk, .d (rowD k r)] ∧ PI k Z M r ∧ Z ≤ 900 ∧ M ≤ 10 ^ 15 ∧ k ≤ 3 ∧ n < 1000000 ∧ ∀ (r' : Rw) n', PI k Z M r' → cuts r' = [] → n ≤ n' → n' ≤ n + (27 * Z + 12) → Q (rowD k r') n'
theorem c_plain (T : Txt K mg "_law_plain" s__law_plain P__law_plain) (B : Blt mg) (C__law_one : Cal P w K mg base "_law_one" P__law_one 2 (spD F_one)) (C__law_cuts : Cal P w K mg base "_law_cuts" P__law_cuts 1 (spD F_cuts)) (C__law_turn : Cal P w K mg base "_law_turn" P__law_turn 3 (spD F_turn)) : Cal P w K mg base "_law_plain" P__law_plain 4 (spD F_plain) := by
  refine T.def sc__law_plain (fun as n Q h => by obtain ⟨k, Z, M, r, rfl, _⟩ := h; rfl) (fun f cdv A o s H E hr hg => ⟨_, (b_cons (s_set (i := 2) sc__law_plain.nd rfl (Or.inl rfl) (l_cal C__law_cuts (hr.mono (by omega)) hg (by rfl) (a_cons (gv 1) a_nil)))
  (b_cons (s_while PassesOwn.never (lt_cmp (k_ne (K := K) (by rfl) hr.units) (lv 2) (l_lst a_nil) (nomark _)) (b_cons (s_set (i := 1) sc__law_plain.nd rfl (Or.inl rfl) (l_cal C__law_turn (hr.mono (by omega)) hg (by rfl) (a_cons (gv 1) (a_cons (g_ (l_cal C__law_one (hr.mono (by omega)) hg (by rfl) (a_cons (gv 0) (a_cons (gv 2) a_nil)))) a_nil))))
  (b_one (s_set (i := 2) sc__law_plain.nd rfl (Or.inl rfl) (l_cal C__law_cuts (hr.mono (by omega)) hg (by rfl) (a_cons (gv 1) a_nil))))))
  (b_one (s_ret (lv 1)))))⟩) (fun as n Q h => ?_)
  obtain ⟨k, Z, M, r, rfl, hr, hZ, hM, hk, hn, hq⟩ := h
  simp only [dSeq, dRet]
  simp (config := { maxSteps := 1000000 }) only [dIsi, Kd.of, dSetA, dAsgTA, dAppA, dExt, dgLst, dParLL, qSum2_l, qSum2_t, unS_d, unS_own, unS_dk, unS_un, qLe2_i, qLe2_s, qAll_l, dExt2, dPar3, dFind3, dRevS, diEnum, dSeq, dSet, dSetL, dRet, dRetO, dRetL, dIfS, dNext, dApp, dSetIx, dVar, dC, dOp, dFn, dFnL, dCons, dNil, dArg, dArgV, onD, datas, dTup, dLst, dLstL, dOfL, dAddL, dMulL, dIf, dTest, dTru, dNot, dAnd, dOr, dNotV, dAndV, dOrV, dSl, dPart, dNoPart, dCall, dMt, qAdd_i, qAdd_s, qAdd_t, qAdd_l, qSub_i, qDiv_i, qMod_i, qPow_i, qMul_i, qMul_s, qMul_t, qMul_l, qLt_i, qLe_i, qGt_i, qGe_i, qIx_l, qIx_t, qIx_s, qSl_l, qSl_t, qSl_s, qLen_l, qLen_t, qLen_s, qInt_i, qInt_b, qMin_i, qMax_i, qTup_l, qTup_t, qLst_l, qLst_t, qTru_n, qTru_b, qTru_i, qTru_s, qTru_l, qTru_t, qSum_l, qAny_l, qAny_t, qJoin_l, qCount_s, qEq_e, qNe_e, qRepr_e, dAsgT, dNeg, qNeg_i, dgTup, dgCons, dgName, dgNil, dPar, diR1, diOwn, diSeq, diL, diZip, diZipM, diVar, dParL, startS, toS, List.map_cons, List.map_nil, List.length_cons, List.length_nil, List.replicate, List.cons_append, List.nil_append, List.append_nil, List.getElem?_cons_zero, List.getElem?_cons_succ, List.set_cons_zero, List.set_cons_succ, Nat.reduceSub, Nat.reduceAdd, wipeS, canD, if_true, if_false, ite_true, ite_false, Bool.false_eq_true, PyData.bool.injEq, exists_eq_left', exists_eq_left, shp_i, shp_s, shp_b, shp_n, shp_e, shp_z, eqv_tt, eqv_lt, eqv_i, true_and, ix0, ix1, ix2, Option.some.injEq, PyData.tuple.injEq, PyData.list.injEq, PyData.int.injEq, PyData.str.injEq, S.own.injEq]
  have hbig := rank_small hr
  refine ⟨k, Z, r, rfl, hr.rk hM, by omega, .inr rfl, ?_⟩
  refine ⟨fun m ss n' => ∃ r', rank r' = m ∧ PI k Z M r' ∧ ss = [.dk, .d (rowD k r'), .d (.list (mvsD (cuts r')))] ∧ n ≤ n' ∧ n' + m ≤ n + rank r, ⟨_, r, rfl, hr, rfl, by omega, by omega⟩, fun m ss n' ⟨r', e1, g1, e2, g2, g3⟩ => ?_⟩
  subst e1 e2
  have hz2 := rank_small g1
  have hrk := g1.rk hM
  have hlen := cutsTo_len hrk r'.2.length (Nat.le_refl _)
  have hl12 := g1.2.1
  have hb : (mvsD (cuts r')).length ≤ 1000000 := by
    show ((cuts r').map Mv.data).length ≤ _
    rw [List.length_map]
    have : (cuts r').length ≤ r'.2.length * (Z + 3) := hlen
    have h2 : r'.2.length * (Z + 3) ≤ 12 * (900 + 3) := Nat.mul_le_mul hl12 (by omega)
    omega
  have hok : okD (.list (mvsD (cuts r'))) = true := ok_list fun x hx => by
    obtain ⟨m, hm, rfl⟩ := List.mem_map.mp hx
    exact mv_nice hl12 g1.lw hZ hm
  simp (config := { maxSteps := 1000000 }) only [dIsi, Kd.of, dSetA, dAsgTA, dAppA, dExt, dgLst, dParLL, qSum2_l, qSum2_t, unS_d, unS_own, unS_dk, unS_un, qLe2_i, qLe2_s, qAll_l, dExt2, dPar3, dFind3, dRevS, diEnum, dSeq, dSet, dSetL, dRet, dRetO, dRetL, dIfS, dNext, dApp, dSetIx, dVar, dC, dOp, dFn, dFnL, dCons, dNil, dArg, dArgV, onD, datas, dTup, dLst, dLstL, dOfL, dAddL, dMulL, dIf, dTest, dTru, dNot, dAnd, dOr, dNotV, dAndV, dOrV, dSl, dPart, dNoPart, dCall, dMt, qAdd_i, qAdd_s, qAdd_t, qAdd_l, qSub_i, qDiv_i, qMod_i, qPow_i, qMul_i, qMul_s, qMul_t, qMul_l, qLt_i, qLe_i, qGt_i, qGe_i, qIx_l, qIx_t, qIx_s, qSl_l, qSl_t, qSl_s, qLen_l, qLen_t, qLen_s, qInt_i, qInt_b, qMin_i, qMax_i, qTup_l, qTup_t, qLst_l, qLst_t, qTru_n, qTru_b, qTru_i, qTru_s, qTru_l, qTru_t, qSum_l, qAny_l, qAny_t, qJoin_l, qCount_s, qEq_e, qNe_e, qRepr_e, dAsgT, dNeg, qNeg_i, dgTup, dgCons, dgName, dgNil, dPar, diR1, diOwn, diSeq, diL, diZip, diZipM, diVar, dParL, startS, toS, List.map_cons, List.map_nil, List.length_cons, List.length_nil, List.replicate, List.cons_append, List.nil_append, List.append_nil, List.getElem?_cons_zero, List.getElem?_cons_succ, List.set_cons_zero, List.set_cons_succ, Nat.reduceSub, Nat.reduceAdd, wipeS, canD, if_true, if_false, ite_true, ite_false, Bool.false_eq_true, PyData.bool.injEq, exists_eq_left', exists_eq_left, shp_i, shp_s, shp_b, shp_n, shp_e, shp_z, eqv_tt, eqv_lt, eqv_i, true_and, ix0, ix1, ix2, Option.some.injEq, PyData.tuple.injEq, PyData.list.injEq, PyData.int.injEq, PyData.str.injEq, S.own.injEq]
  refine ⟨sz6 (by decide), hok, ?_⟩
  rw [eqv_nil]
  by_cases h0 : cuts r' = []
  · rw [if_neg (by rw [h0]; decide)]
    exact hq r' n' g1 h0 g2 (by omega)
  · have hne : (mvsD (cuts r')).isEmpty = false := by
      cases hc : cuts r' with
      | nil => exact absurd hc h0
      | cons a b => rfl
    rw [if_pos (by rw [hne]; rfl)]
    refine use_one (by rw [mvsD, List.length_map]; exact List.length_pos_iff.mpr h0) hb (by omega) fun x hx => ?_
    obtain ⟨m, hm, rfl⟩ := List.mem_map.mp hx
    obtain ⟨s1, s2⟩ := cut_step g1 hm
    refine ⟨k, Z, r', m, rfl, hrk, by omega, hk, hm, .inr rfl, k, Z, cutR r' m, rfl, s1.rk hM, by omega, .inr rfl, ?_⟩
    exact ⟨_, s2, cutR r' m, rfl, s1, rfl, by omega, by omega⟩
end
end Law

namespace Law
open PySem PySem.Spec PyProof.Rows L2 Ev
/-! ### a row changed -/
def CI (k B X : Nat) (r : Rw) : Prop := r.1.length = r.2.length + 1 ∧ r.2.length ≤ 12 ∧ (∀ z ∈ r.1, abc z ∧ z.length ≤ B) ∧ ∀ p ∈ r.2, p.1 ≠ nilS ∧ abc p.1 ∧ p.1.length ≤ B ∧ p.2.length = k + 1 ∧ isOpen p.2 = true ∧ ∀ x ∈ p.2, x ≤ X
theorem CI.rk {k B X : Nat} {r : Rw} (h : CI k B X r) (hX : X ≤ 10 ^ 15) : Rk k B r := ⟨h.1, by have := h.2.1; omega, h.2.2.1, fun p hp => by
  obtain ⟨a, b, c, d, e, f⟩ := h.2.2.2 p hp
  exact ⟨a, b, c, d, e, fun x hx => Nat.le_trans (f x hx) hX⟩⟩
theorem PI.ci {k Z M : Nat} {r : Rw} (h : PI k Z M r) : CI k Z M r := by
  obtain ⟨h1, h2, h3, h4, h5, h6, h7⟩ := h
  refine ⟨h1, h2, fun z hz => ⟨h3 z hz, by have := mem_lsm hz; omega⟩, fun p hp => ?_⟩
  obtain ⟨g1, g2, g3, g4⟩ := h4 p hp
  obtain ⟨b1, b2⟩ := mem_wsm hp
  refine ⟨g1, g2, by omega, g3, g4, fun x hx => ?_⟩
  have a1 := mem_sum hx
  have a2 := len_pos g1
  have a3 : 1 * p.2.sum ≤ p.1.length * p.2.sum := Nat.mul_le_mul_right _ a2
  omega
theorem CI.mono {k B X B' X' : Nat} {r : Rw} (h : CI k B X r) (hB : B ≤ B') (hX : X ≤ X') : CI k B' X' r := ⟨h.1, h.2.1, fun z hz => ⟨(h.2.2.1 z hz).1, Nat.le_trans (h.2.2.1 z hz).2 hB⟩, fun p hp => by
  obtain ⟨a, b, c, d, e, f⟩ := h.2.2.2 p hp
  exact ⟨a, b, Nat.le_trans c hB, d, e, fun x hx => Nat.le_trans (f x hx) hX⟩⟩
theorem row_nice {k B X : Nat} {r : Rw} (h : CI k B X r) (hk : k ≤ 3) (hB : B ≤ 1000) (hX : X ≤ 10 ^ 60) : nice (rowD k r) = true ∧ wt (rowD k r) ≤ 400000 ∧ (rowD k r).depth ≤ 4 ∧ nice (.tuple (lpsD r.2)) = true ∧ (PyData.tuple (lpsD r.2)).depth ≤ 3 := by
  obtain ⟨h1, h2, h3, h4⟩ := h
  have hlp : ∀ p ∈ r.2, nice (lpD p) = true ∧ wt (lpD p) ≤ 17710 ∧ (lpD p).depth ≤ 2 := fun p hp => by
    obtain ⟨g1, g2, g3, g4, g5, g6⟩ := h4 p hp
    have a1 := nice_fm (f := p.2) fun x hx => Nat.le_trans (g6 x hx) hX
    have a2 := wt_fm p.2
    have a3 := depth_fm p.2
    refine ⟨?_, ?_, ?_⟩
    · simp only [lpD, nice, niceA, sok_abc g2, a1]
      rfl
    · simp only [lpD, wt, wtA]
      omega
    · refine depth_t fun x hx => ?_
      simp only [List.mem_cons, List.not_mem_nil, or_false] at hx
      rcases hx with rfl | rfl
      · simp [PyData.depth]
      · exact a3
  have n1 : niceA (txD r.1) = true := niceA_iff.mpr fun x hx => by
    obtain ⟨z, hz, rfl⟩ := List.mem_map.mp hx
    simp only [nice]
    exact sok_abc (h3 z hz).1
  have n2 : niceA (lpsD r.2) = true := niceA_iff.mpr fun x hx => by
    obtain ⟨p, hp, rfl⟩ := List.mem_map.mp hx
    exact (hlp p hp).1
  have w2 : wtA (lpsD r.2) ≤ (17710 + 2) * (lpsD r.2).length := wtA_le fun x hx => by
    obtain ⟨p, hp, rfl⟩ := List.mem_map.mp hx
    exact (hlp p hp).2.1
  have w1 : wtA (txD r.1) ≤ (10002 + 2) * (txD r.1).length := wtA_le fun x hx => by
    obtain ⟨z, hz, rfl⟩ := List.mem_map.mp hx
    have := (h3 z hz).2
    simp only [wt]
    omega
  have ll : (lpsD r.2).length = r.2.length := List.length_map _
  have lt : (txD r.1).length = r.1.length := List.length_map _
  have d2 : (PyData.tuple (lpsD r.2)).depth ≤ 3 := depth_t (m := 2) fun y hy => by
    obtain ⟨p, hp, rfl⟩ := List.mem_map.mp hy
    exact (hlp p hp).2.2
  refine ⟨?_, ?_, ?_, by simp only [nice, n2], d2⟩
  · have n0 : nice (.int (k : Int)) = true := nice_nat (Nat.le_trans hk (by decide))
    simp only [rowD, nice, niceA, n1, n2]
    simp only [nice] at n0
    rw [n0]
    rfl
  · simp only [rowD, wt, wtA]
    rw [ll] at w2
    rw [lt] at w1
    omega
  · refine depth_t fun x hx => ?_
    simp only [List.mem_cons, List.not_mem_nil, or_false] at hx
    rcases hx with rfl | rfl | rfl
    · simp [PyData.depth]
    · refine Nat.le_trans (depth_t (m := 0) fun y hy => ?_) (by decide)
      obtain ⟨z, _, rfl⟩ := List.mem_map.mp hy
      simp [PyData.depth]
    · exact d2
theorem seq_mid {A R : DS} {DD : DEnds} {ss : List S} {n : Nat} (P : List S → Nat → Prop) (h : ∀ N : List S → Nat → Prop, (∀ ss' n', P ss' n' → N ss' n') → A { DD with nx := N } ss n) (hR : ∀ ss' n', P ss' n' → R DD ss' n') : dSeq A R DD ss n := h (R DD) hR
theorem if_known {t : DT} {A : DS} {DD : DEnds} {ss : List S} {n : Nat} (b : Bool) (ht : ∀ Q : Bool → Nat → Prop, Q b n → t ss n Q) (h : if b = true then A DD ss n else DD.nx ss n) : dIfS t A dNext DD ss n := ht _ (by cases b <;> exact h)
theorem eqv_nilT (xs : List PyData) : PyData.eqv (.tuple xs) (.tuple []) = xs.isEmpty := by cases xs <;> simp [PyData.eqv, PyData.eqvAll]
theorem len1 (c : Nat) : (⟨#[c]⟩ : Str).length = 1 := rfl
theorem set_text {r : Rw} {e : Nat} (he : e < r.1.length) (z : Str) : txD (r.1.take e) ++ [.str z] ++ txD (r.1.drop (e + 1)) = txD (r.1.set e z) := by
  rw [List.set_eq_take_append_cons_drop, if_pos he]
  simp [txD]
theorem set_loop {r : Rw} {e : Nat} (he : e < r.2.length) (p : Str × List Nat) : lpsD (r.2.take e) ++ [.tuple [.str p.1, fmD p.2]] ++ lpsD (r.2.drop (e + 1)) = lpsD (r.2.set e p) := by
  rw [List.set_eq_take_append_cons_drop, if_pos he]
  simp [lpsD, lpD]
section
variable {P : Program} {w : World} {K : PySem.W.Frag} {mg : Str → Option Value} {base : Heap}
def F_chg : DF := fun as n Q => ∃ (k B X : Nat) (r : Rw), as = [.dk, .d (rowD k r)] ∧ CI k B X r ∧ B ≤ 950 ∧ X ≤ 10 ^ 10 ∧ k ≤ 3 ∧ n < 1000000 ∧ ∀ (r' : Rw) n', CI k (B + 1) (X + 2) r' → n ≤ n' → n' ≤ n + 5 → Q (rowD k r') n'
theorem c_changed (T : Txt K mg "_law_changed" s__law_changed P__law_changed) (B : Blt mg) (C__law_draw : Cal P w K mg base "_law_draw" P__law_draw 1 (spD F_draw)) (C__law_one : Cal P w K mg base "_law_one" P__law_one 2 (spD F_one)) : Cal P w K mg base "_law_changed" P__law_changed 3 (spD F_chg) := by
  refine T.def sc__law_changed (fun as n Q h => by obtain ⟨k, b, x, r, rfl, _⟩ := h; rfl) (fun f cdv A o s H E hr hg => ⟨_, (b_cons (s_asgT (lv 1) (k_tup (n := 3) (K := K) (by rfl) (by rfl) (gs_cons (g_name (i := 2) sc__law_changed.nd rfl (Or.inl rfl)) (gs_cons (g_name (i := 3) sc__law_changed.nd rfl (Or.inl rfl)) (gs_cons (g_name (i := 4) sc__law_changed.nd rfl (Or.inl rfl)) gs_nil)))))
  (b_cons (s_par (i := 5) (j := 6) rfl sc__law_changed.nd rfl rfl (by decide) rfl rfl (l_cal C__law_draw (hr.mono (by omega)) hg (by rfl) (a_cons (gv 0) (a_cons (g_ l_int) a_nil))) (l_cal C__law_draw (hr.mono (by omega)) hg (by rfl) (a_cons (gv 0) (a_cons (g_ (l_callB (kb_len (K := K) (by rfl)) (by rfl) B.len (by decide +kernel) (a_cons (gv 3) a_nil))) a_nil))))
  (b_cons (s_if (lw_or (lt_cmp (k_eq (K := K) (by rfl) hr.units) (lv 5) l_int (nomark _)) (lw_or1 (lt_cmp (k_eq (K := K) (by rfl) hr.units) (lv 4) (l_tup a_nil) (nomark _)))).t (b_cons (s_set (i := 7) sc__law_changed.nd rfl (Or.inl rfl) (l_cal C__law_one (hr.mono (by omega)) hg (by rfl) (a_cons (gv 0) (a_cons (g_ (l_lst (a_cons (g_ (k_add (K := K) (by rfl) (k_ix (K := K) (by rfl) (lv 3) (lv 6)) l_str)) (a_cons (g_ (k_add (K := K) (by rfl) l_str (k_ix (K := K) (by rfl) (lv 3) (lv 6)))) (a_cons (g_ (k_sl (K := K) (by rfl) (k_ix (K := K) (by rfl) (lv 3) (lv 6)) (o_some l_int) o_none)) (a_cons (g_ (k_sl (K := K) (by rfl) (k_ix (K := K) (by rfl) (lv 3) (lv 6)) o_none (o_some (l_neg l_int)))) a_nil)))))) a_nil))))
  (b_one (s_ret (l_tup (a_cons (gv 2) (a_cons (g_ (k_add (K := K) (by rfl) (k_add (K := K) (by rfl) (k_sl (K := K) (by rfl) (lv 3) o_none (o_some (lv 6))) (l_tup (a_cons (gv 7) a_nil))) (k_sl (K := K) (by rfl) (lv 3) (o_some (k_add (K := K) (by rfl) (lv 6) l_int)) o_none))) (a_cons (gv 4) a_nil))))))) b_nil)
  (b_cons (s_set (i := 6) sc__law_changed.nd rfl (Or.inl rfl) (l_cal C__law_draw (hr.mono (by omega)) hg (by rfl) (a_cons (gv 0) (a_cons (g_ (l_callB (kb_len (K := K) (by rfl)) (by rfl) B.len (by decide +kernel) (a_cons (gv 4) a_nil))) a_nil))))
  (b_cons (s_asgT (k_ix (K := K) (by rfl) (lv 4) (lv 6)) (k_tup (n := 2) (K := K) (by rfl) (by rfl) (gs_cons (g_name (i := 8) sc__law_changed.nd rfl (Or.inl rfl)) (gs_cons (g_name (i := 9) sc__law_changed.nd rfl (Or.inl rfl)) gs_nil))))
  (b_cons (s_if (lt_cmp (k_eq (K := K) (by rfl) hr.units) (lv 5) l_int (nomark _)) (b_one (s_set (i := 8) sc__law_changed.nd rfl (Or.inl rfl) (l_cal C__law_one (hr.mono (by omega)) hg (by rfl) (a_cons (gv 0) (a_cons (g_ (l_lst (a_cons (g_ (k_add (K := K) (by rfl) (lv 8) l_str)) (a_cons (g_ (l_revS (lv 8))) (a_cons (g_ (k_add (K := K) (by rfl) l_str (lv 8))) (a_cons (g_ (k_add (K := K) (by rfl) (k_sl (K := K) (by rfl) (lv 8) (o_some l_int) o_none) (k_sl (K := K) (by rfl) (lv 8) o_none (o_some l_int)))) a_nil)))))) a_nil))))) b_nil)
  (b_cons (s_if (lt_cmp (k_eq (K := K) (by rfl) hr.units) (lv 5) l_int (nomark _)) (b_one (s_set (i := 9) sc__law_changed.nd rfl (Or.inl rfl) (k_add (K := K) (by rfl) (l_tup (a_cons (g_ (k_add (K := K) (by rfl) (k_ix (K := K) (by rfl) (lv 9) l_int) l_int)) a_nil)) (k_sl (K := K) (by rfl) (lv 9) (o_some l_int) o_none)))) b_nil)
  (b_cons (s_if (lt_cmp c_gt (lv 5) l_int (nomark _)) (b_cons (s_set (i := 10) sc__law_changed.nd rfl (Or.inl rfl) (k_add (K := K) (by rfl) l_int (l_cal C__law_draw (hr.mono (by omega)) hg (by rfl) (a_cons (gv 0) (a_cons (gv 2) a_nil)))))
  (b_one (s_set (i := 9) sc__law_changed.nd rfl (Or.inl rfl) (k_add (K := K) (by rfl) (k_add (K := K) (by rfl) (k_sl (K := K) (by rfl) (lv 9) o_none (o_some (lv 10))) (l_tup (a_cons (g_ (k_add (K := K) (by rfl) (k_ix (K := K) (by rfl) (lv 9) (lv 10)) l_int)) a_nil))) (k_sl (K := K) (by rfl) (lv 9) (o_some (k_add (K := K) (by rfl) (lv 10) l_int)) o_none))))) b_nil)
  (b_one (s_ret (l_tup (a_cons (gv 2) (a_cons (gv 3) (a_cons (g_ (k_add (K := K) (by rfl) (k_add (K := K) (by rfl) (k_sl (K := K) (by rfl) (lv 4) o_none (o_some (lv 6))) (l_tup (a_cons (g_ (l_tup (a_cons (gv 8) (a_cons (gv 9) a_nil)))) a_nil))) (k_sl (K := K) (by rfl) (lv 4) (o_some (k_add (K := K) (by rfl) (lv 6) l_int)) o_none))) a_nil))))))))))))))⟩) (fun as n Q h => ?_)
  obtain ⟨k, b, X, r, rfl, hr, hb, hX, hk, hn, hq⟩ := h
  obtain ⟨h1, h2, h3, h4⟩ := id hr
  have hrk := hr.rk (X := X) (Nat.le_trans hX (by decide))
  have lt : (txD r.1).length = r.1.length := List.length_map _
  have ll : (lpsD r.2).length = r.2.length := List.length_map _
  obtain ⟨V, hV⟩ : ∃ V, V = rowD k r := ⟨_, rfl⟩
  rw [← hV]
  refine seq_mid (fun ss n' => ss = [.dk, .d V, .d (.int k), .d (.tuple (txD r.1)), .d (.tuple (lpsD r.2)), .un, .un, .un, .un, .un, .un] ∧ n' = n) (fun N hN => ?_) (fun ss n' ⟨e1, e2⟩ => ?_)
  · rw [hV] at hN ⊢
    simp only [rowD] at hN ⊢
    simp (config := { maxSteps := 1000000 }) only [dIsi, Kd.of, dSetA, dAsgTA, dAppA, dExt, dgLst, dParLL, qSum2_l, qSum2_t, unS_d, unS_own, unS_dk, unS_un, qLe2_i, qLe2_s, qAll_l, dExt2, dPar3, dFind3, dRevS, diEnum, dSeq, dSet, dSetL, dRet, dRetO, dRetL, dIfS, dNext, dApp, dSetIx, dVar, dC, dOp, dFn, dFnL, dCons, dNil, dArg, dArgV, onD, datas, dTup, dLst, dLstL, dOfL, dAddL, dMulL, dIf, dTest, dTru, dNot, dAnd, dOr, dNotV, dAndV, dOrV, dSl, dPart, dNoPart, dCall, dMt, qAdd_i, qAdd_s, qAdd_t, qAdd_l, qSub_i, qDiv_i, qMod_i, qPow_i, qMul_i, qMul_s, qMul_t, qMul_l, qLt_i, qLe_i, qGt_i, qGe_i, qIx_l, qIx_t, qIx_s, qSl_l, qSl_t, qSl_s, qLen_l, qLen_t, qLen_s, qInt_i, qInt_b, qMin_i, qMax_i, qTup_l, qTup_t, qLst_l, qLst_t, qTru_n, qTru_b, qTru_i, qTru_s, qTru_l, qTru_t, qSum_l, qAny_l, qAny_t, qJoin_l, qCount_s, qEq_e, qNe_e, qRepr_e, dAsgT, dNeg, qNeg_i, dgTup, dgCons, dgName, dgNil, dPar, diR1, diOwn, diSeq, diL, diZip, diZipM, diVar, dParL, startS, toS, List.map_cons, List.map_nil, List.length_cons, List.length_nil, List.replicate, List.cons_append, List.nil_append, List.append_nil, List.getElem?_cons_zero, List.getElem?_cons_succ, List.set_cons_zero, List.set_cons_succ, Nat.reduceSub, Nat.reduceAdd, wipeS, canD, if_true, if_false, ite_true, ite_false, Bool.false_eq_true, PyData.bool.injEq, exists_eq_left', exists_eq_left, shp_i, shp_s, shp_b, shp_n, shp_e, shp_z, eqv_tt, eqv_lt, eqv_i, true_and, ix0, ix1, ix2, Option.some.injEq, PyData.tuple.injEq, PyData.list.injEq, PyData.int.injEq, PyData.str.injEq, S.own.injEq]
    exact ⟨.inr rfl, hN _ _ ⟨rfl, rfl⟩⟩
  subst e1 e2
  refine seq_mid (fun ss n2 => ∃ s e : Nat, ss = [.dk, .d V, .d (.int k), .d (.tuple (txD r.1)), .d (.tuple (lpsD r.2)), .d (.int (s : Nat)), .d (.int (e : Nat)), .un, .un, .un, .un] ∧ n2 = n' + 2 ∧ e < r.1.length) (fun N hN => ?_) (fun ss n2 ⟨s, e, e1, e2, he⟩ => ?_)
  · simp (config := { maxSteps := 1000000 }) only [dIsi, Kd.of, dSetA, dAsgTA, dAppA, dExt, dgLst, dParLL, qSum2_l, qSum2_t, unS_d, unS_own, unS_dk, unS_un, qLe2_i, qLe2_s, qAll_l, dExt2, dPar3, dFind3, dRevS, diEnum, dSeq, dSet, dSetL, dRet, dRetO, dRetL, dIfS, dNext, dApp, dSetIx, dVar, dC, dOp, dFn, dFnL, dCons, dNil, dArg, dArgV, onD, datas, dTup, dLst, dLstL, dOfL, dAddL, dMulL, dIf, dTest, dTru, dNot, dAnd, dOr, dNotV, dAndV, dOrV, dSl, dPart, dNoPart, dCall, dMt, qAdd_i, qAdd_s, qAdd_t, qAdd_l, qSub_i, qDiv_i, qMod_i, qPow_i, qMul_i, qMul_s, qMul_t, qMul_l, qLt_i, qLe_i, qGt_i, qGe_i, qIx_l, qIx_t, qIx_s, qSl_l, qSl_t, qSl_s, qLen_l, qLen_t, qLen_s, qInt_i, qInt_b, qMin_i, qMax_i, qTup_l, qTup_t, qLst_l, qLst_t, qTru_n, qTru_b, qTru_i, qTru_s, qTru_l, qTru_t, qSum_l, qAny_l, qAny_t, qJoin_l, qCount_s, qEq_e, qNe_e, qRepr_e, dAsgT, dNeg, qNeg_i, dgTup, dgCons, dgName, dgNil, dPar, diR1, diOwn, diSeq, diL, diZip, diZipM, diVar, dParL, startS, toS, List.map_cons, List.map_nil, List.length_cons, List.length_nil, List.replicate, List.cons_append, List.nil_append, List.append_nil, List.getElem?_cons_zero, List.getElem?_cons_succ, List.set_cons_zero, List.set_cons_succ, Nat.reduceSub, Nat.reduceAdd, wipeS, canD, if_true, if_false, ite_true, ite_false, Bool.false_eq_true, PyData.bool.injEq, exists_eq_left', exists_eq_left, shp_i, shp_s, shp_b, shp_n, shp_e, shp_z, eqv_tt, eqv_lt, eqv_i, true_and, ix0, ix1, ix2, Option.some.injEq, PyData.tuple.injEq, PyData.list.injEq, PyData.int.injEq, PyData.str.injEq, S.own.injEq]
    refine use_draw (by decide) (by decide) (by omega) fun s hs => ?_
    rw [lt]
    refine use_draw (by omega) (by omega) (by omega) fun e he => ⟨by decide, .inl rfl, .inl rfl, hN _ _ ⟨s, e, rfl, rfl, by omega⟩⟩
  subst e1 e2
  have hokL : okD (.tuple (lpsD r.2)) = true := by
    obtain ⟨_, _, _, a, b⟩ := row_nice hr hk (by omega) (Nat.le_trans hX (by decide))
    exact okD_nice a (Nat.le_trans b (by decide))
  have word4 : ∀ (z a1 a2 : Str), abc z → abc a1 → abc a2 → a1.length ≤ 1 → a2.length ≤ 1 → ∀ y, (y = z ++ a1 ∨ y = a2 ++ z) → abc y ∧ y.length ≤ z.length + 1 := fun z a1 a2 g1 g2 g3 l1 l2 y hy => by
    rcases hy with rfl | rfl
    · exact ⟨abc_app g1 g2, by rw [app_len]; omega⟩
    · exact ⟨abc_app g3 g1, by rw [app_len]; omega⟩
  have abcA : abc (Str.ofString "a") := by unfold abc; decide
  have abcB : abc (Str.ofString "b") := by unfold abc; decide
  have lA : (Str.ofString "a").length = 1 := by decide +kernel
  have lB : (Str.ofString "b").length = 1 := by decide +kernel
  obtain ⟨t1, t2⟩ := hrk.tx e
  refine seq_mid (fun ss n2 => ss = [.dk, .d V, .d (.int k), .d (.tuple (txD r.1)), .d (.tuple (lpsD r.2)), .d (.int (s : Nat)), .d (.int (e : Nat)), .un, .un, .un, .un] ∧ n2 = n' + 2 ∧ r.2 ≠ []) (fun N hN => ?_) (fun ss n2 ⟨e1, e2, h0⟩ => ?_)
  · refine if_known (decide (s = 0) || r.2.isEmpty) (fun Q hQ => ?_) ?_
    · simp (config := { maxSteps := 1000000 }) only [dIsi, Kd.of, dSetA, dAsgTA, dAppA, dExt, dgLst, dParLL, qSum2_l, qSum2_t, unS_d, unS_own, unS_dk, unS_un, qLe2_i, qLe2_s, qAll_l, dExt2, dPar3, dFind3, dRevS, diEnum, dSeq, dSet, dSetL, dRet, dRetO, dRetL, dIfS, dNext, dApp, dSetIx, dVar, dC, dOp, dFn, dFnL, dCons, dNil, dArg, dArgV, onD, datas, dTup, dLst, dLstL, dOfL, dAddL, dMulL, dIf, dTest, dTru, dNot, dAnd, dOr, dNotV, dAndV, dOrV, dSl, dPart, dNoPart, dCall, dMt, qAdd_i, qAdd_s, qAdd_t, qAdd_l, qSub_i, qDiv_i, qMod_i, qPow_i, qMul_i, qMul_s, qMul_t, qMul_l, qLt_i, qLe_i, qGt_i, qGe_i, qIx_l, qIx_t, qIx_s, qSl_l, qSl_t, qSl_s, qLen_l, qLen_t, qLen_s, qInt_i, qInt_b, qMin_i, qMax_i, qTup_l, qTup_t, qLst_l, qLst_t, qTru_n, qTru_b, qTru_i, qTru_s, qTru_l, qTru_t, qSum_l, qAny_l, qAny_t, qJoin_l, qCount_s, qEq_e, qNe_e, qRepr_e, dAsgT, dNeg, qNeg_i, dgTup, dgCons, dgName, dgNil, dPar, diR1, diOwn, diSeq, diL, diZip, diZipM, diVar, dParL, startS, toS, List.map_cons, List.map_nil, List.length_cons, List.length_nil, List.replicate, List.cons_append, List.nil_append, List.append_nil, List.getElem?_cons_zero, List.getElem?_cons_succ, List.set_cons_zero, List.set_cons_succ, Nat.reduceSub, Nat.reduceAdd, wipeS, canD, if_true, if_false, ite_true, ite_false, Bool.false_eq_true, PyData.bool.injEq, exists_eq_left', exists_eq_left, shp_i, shp_s, shp_b, shp_n, shp_e, shp_z, eqv_tt, eqv_lt, eqv_i, true_and, ix0, ix1, ix2, Option.some.injEq, PyData.tuple.injEq, PyData.list.injEq, PyData.int.injEq, PyData.str.injEq, S.own.injEq]
      by_cases hs : s = 0
      · rw [if_pos (by rw [decide_eq_true_eq]; omega)]
        rw [decide_eq_true hs] at hQ
        exact hQ
      · rw [if_neg (by rw [decide_eq_true_eq]; omega)]
        rw [decide_eq_false hs, Bool.false_or] at hQ
        refine ⟨sz6 (by decide), hokL, ?_⟩
        rw [eqv_nilT, show (lpsD r.2).isEmpty = r.2.isEmpty by cases r.2 <;> rfl]
        exact hQ
    · by_cases hb2 : (decide (s = 0) || r.2.isEmpty) = true
      · rw [if_pos hb2]
        simp only [dSeq, dRet]
        simp (config := { maxSteps := 1000000 }) only [dIsi, Kd.of, dSetA, dAsgTA, dAppA, dExt, dgLst, dParLL, qSum2_l, qSum2_t, unS_d, unS_own, unS_dk, unS_un, qLe2_i, qLe2_s, qAll_l, dExt2, dPar3, dFind3, dRevS, diEnum, dSeq, dSet, dSetL, dRet, dRetO, dRetL, dIfS, dNext, dApp, dSetIx, dVar, dC, dOp, dFn, dFnL, dCons, dNil, dArg, dArgV, onD, datas, dTup, dLst, dLstL, dOfL, dAddL, dMulL, dIf, dTest, dTru, dNot, dAnd, dOr, dNotV, dAndV, dOrV, dSl, dPart, dNoPart, dCall, dMt, qAdd_i, qAdd_s, qAdd_t, qAdd_l, qSub_i, qDiv_i, qMod_i, qPow_i, qMul_i, qMul_s, qMul_t, qMul_l, qLt_i, qLe_i, qGt_i, qGe_i, qIx_l, qIx_t, qIx_s, qSl_l, qSl_t, qSl_s, qLen_l, qLen_t, qLen_s, qInt_i, qInt_b, qMin_i, qMax_i, qTup_l, qTup_t, qLst_l, qLst_t, qTru_n, qTru_b, qTru_i, qTru_s, qTru_l, qTru_t, qSum_l, qAny_l, qAny_t, qJoin_l, qCount_s, qEq_e, qNe_e, qRepr_e, dAsgT, dNeg, qNeg_i, dgTup, dgCons, dgName, dgNil, dPar, diR1, diOwn, diSeq, diL, diZip, diZipM, diVar, dParL, startS, toS, List.map_cons, List.map_nil, List.length_cons, List.length_nil, List.replicate, List.cons_append, List.nil_append, List.append_nil, List.getElem?_cons_zero, List.getElem?_cons_succ, List.set_cons_zero, List.set_cons_succ, Nat.reduceSub, Nat.reduceAdd, wipeS, canD, if_true, if_false, ite_true, ite_false, Bool.false_eq_true, PyData.bool.injEq, exists_eq_left', exists_eq_left, shp_i, shp_s, shp_b, shp_n, shp_e, shp_z, eqv_tt, eqv_lt, eqv_i, true_and, ix0, ix1, ix2, Option.some.injEq, PyData.tuple.injEq, PyData.list.injEq, PyData.int.injEq, PyData.str.injEq, S.own.injEq]
        have c1 := cutS_length (tx r e) (some 1) none
        have c2 := cutS_length (tx r e) none (some (-1))
        refine ⟨_, at_tx he, sz6 (by omega), _, at_tx he, sz6 (by omega), _, at_tx he, sz6 (by omega), _, at_tx he, sz6 (by omega), sz6 (by decide), ?_⟩
        refine use_one (by simp) (by simp) (by omega) fun y hy => ?_
        obtain ⟨z, rfl, z1, z2⟩ : ∃ z : Str, y = .str z ∧ abc z ∧ z.length ≤ b + 1 := by
          simp only [List.mem_cons, List.not_mem_nil, or_false] at hy
          rcases hy with rfl | rfl | rfl | rfl
          · obtain ⟨a1, a2⟩ := word4 (tx r e) _ _ t1 abcA abcB (by omega) (by omega) _ (.inl rfl)
            exact ⟨_, rfl, a1, by omega⟩
          · obtain ⟨a1, a2⟩ := word4 (tx r e) _ _ t1 abcA abcB (by omega) (by omega) _ (.inr rfl)
            exact ⟨_, rfl, a1, by omega⟩
          · exact ⟨_, rfl, abc_cut t1 _ _, by omega⟩
          · exact ⟨_, rfl, abc_cut t1 _ _, by omega⟩
        have e1 : cut (txD r.1) none (some (e : Int)) = txD (r.1.take e) := by rw [cutD_to, txD, txD, List.map_take]
        have e2 : cut (txD r.1) (some ((e : Int) + 1)) none = txD (r.1.drop (e + 1)) := by rw [show (e : Int) + 1 = ((e + 1 : Nat) : Int) by omega, cutD_from, txD, txD, List.map_drop]
        have l1 : (txD (r.1.take e)).length ≤ 13 := by rw [txD, List.length_map]; exact Nat.le_trans (List.length_take_le' _ _) (by omega)
        have l2 : (txD (r.1.drop (e + 1))).length ≤ 13 := by rw [txD, List.length_map, List.length_drop]; omega
        simp only [e1, e2, List.length_append, List.length_singleton]
        rw [set_text he]
        refine ⟨.inl rfl, sz6 (by decide), sz6 (by omega), sz6 (by omega), sz6 (by decide), hq (r.1.set e z, r.2) _ ⟨?_, h2, fun y hy => ?_, fun p hp => ?_⟩ (by omega) (by omega)⟩
        · show (r.1.set e z).length = _
          rw [List.length_set]; exact h1
        · rcases List.mem_or_eq_of_mem_set hy with hy | rfl
          · exact ⟨(h3 y hy).1, by have := (h3 y hy).2; omega⟩
          · exact ⟨z1, z2⟩
        · obtain ⟨a1, a2, a3, a4, a5, a6⟩ := h4 p hp
          exact ⟨a1, a2, by omega, a4, a5, fun x hx => by have := a6 x hx; omega⟩
      · rw [if_neg hb2]
        refine hN _ _ ⟨rfl, rfl, fun h => hb2 ?_⟩
        rw [h]
        simp
  subst e1 e2
  have hpos : 0 < r.2.length := List.length_pos_iff.mpr h0
  refine seq_mid (fun ss n2 => ∃ q : Nat, ss = [.dk, .d V, .d (.int k), .d (.tuple (txD r.1)), .d (.tuple (lpsD r.2)), .d (.int (s : Nat)), .d (.int (q : Nat)), .un, .un, .un, .un] ∧ n2 = n' + 3 ∧ q < r.2.length) (fun N hN => ?_) (fun ss n2 ⟨q, e1, e2, hq1⟩ => ?_)
  · simp (config := { maxSteps := 1000000 }) only [dIsi, Kd.of, dSetA, dAsgTA, dAppA, dExt, dgLst, dParLL, qSum2_l, qSum2_t, unS_d, unS_own, unS_dk, unS_un, qLe2_i, qLe2_s, qAll_l, dExt2, dPar3, dFind3, dRevS, diEnum, dSeq, dSet, dSetL, dRet, dRetO, dRetL, dIfS, dNext, dApp, dSetIx, dVar, dC, dOp, dFn, dFnL, dCons, dNil, dArg, dArgV, onD, datas, dTup, dLst, dLstL, dOfL, dAddL, dMulL, dIf, dTest, dTru, dNot, dAnd, dOr, dNotV, dAndV, dOrV, dSl, dPart, dNoPart, dCall, dMt, qAdd_i, qAdd_s, qAdd_t, qAdd_l, qSub_i, qDiv_i, qMod_i, qPow_i, qMul_i, qMul_s, qMul_t, qMul_l, qLt_i, qLe_i, qGt_i, qGe_i, qIx_l, qIx_t, qIx_s, qSl_l, qSl_t, qSl_s, qLen_l, qLen_t, qLen_s, qInt_i, qInt_b, qMin_i, qMax_i, qTup_l, qTup_t, qLst_l, qLst_t, qTru_n, qTru_b, qTru_i, qTru_s, qTru_l, qTru_t, qSum_l, qAny_l, qAny_t, qJoin_l, qCount_s, qEq_e, qNe_e, qRepr_e, dAsgT, dNeg, qNeg_i, dgTup, dgCons, dgName, dgNil, dPar, diR1, diOwn, diSeq, diL, diZip, diZipM, diVar, dParL, startS, toS, List.map_cons, List.map_nil, List.length_cons, List.length_nil, List.replicate, List.cons_append, List.nil_append, List.append_nil, List.getElem?_cons_zero, List.getElem?_cons_succ, List.set_cons_zero, List.set_cons_succ, Nat.reduceSub, Nat.reduceAdd, wipeS, canD, if_true, if_false, ite_true, ite_false, Bool.false_eq_true, PyData.bool.injEq, exists_eq_left', exists_eq_left, shp_i, shp_s, shp_b, shp_n, shp_e, shp_z, eqv_tt, eqv_lt, eqv_i, true_and, ix0, ix1, ix2, Option.some.injEq, PyData.tuple.injEq, PyData.list.injEq, PyData.int.injEq, PyData.str.injEq, S.own.injEq]
    rw [ll]
    exact use_draw (by omega) (by omega) (by omega) fun q hq1 => ⟨.inl rfl, hN _ _ ⟨q, rfl, rfl, by omega⟩⟩
  subst e1 e2
  obtain ⟨w1, w2, w3, w4, w5, w6⟩ := h4 _ (hrk.mem hq1)
  have w1 : lw r q ≠ nilS := w1
  have w2 : abc (lw r q) := w2
  have w3 : (lw r q).length ≤ b := w3
  have w4 : (lf r q).length = k + 1 := w4
  have w5 : isOpen (lf r q) = true := w5
  have w6 : ∀ x ∈ lf r q, x ≤ X := w6
  refine seq_mid (fun ss n2 => ss = [.dk, .d V, .d (.int k), .d (.tuple (txD r.1)), .d (.tuple (lpsD r.2)), .d (.int (s : Nat)), .d (.int (q : Nat)), .un, .d (.str (lw r q)), .d (fmD (lf r q)), .un] ∧ n2 = n' + 3) (fun N hN => ?_) (fun ss n2 ⟨e1, e2⟩ => ?_)
  · simp (config := { maxSteps := 1000000 }) only [dIsi, Kd.of, dSetA, dAsgTA, dAppA, dExt, dgLst, dParLL, qSum2_l, qSum2_t, unS_d, unS_own, unS_dk, unS_un, qLe2_i, qLe2_s, qAll_l, dExt2, dPar3, dFind3, dRevS, diEnum, dSeq, dSet, dSetL, dRet, dRetO, dRetL, dIfS, dNext, dApp, dSetIx, dVar, dC, dOp, dFn, dFnL, dCons, dNil, dArg, dArgV, onD, datas, dTup, dLst, dLstL, dOfL, dAddL, dMulL, dIf, dTest, dTru, dNot, dAnd, dOr, dNotV, dAndV, dOrV, dSl, dPart, dNoPart, dCall, dMt, qAdd_i, qAdd_s, qAdd_t, qAdd_l, qSub_i, qDiv_i, qMod_i, qPow_i, qMul_i, qMul_s, qMul_t, qMul_l, qLt_i, qLe_i, qGt_i, qGe_i, qIx_l, qIx_t, qIx_s, qSl_l, qSl_t, qSl_s, qLen_l, qLen_t, qLen_s, qInt_i, qInt_b, qMin_i, qMax_i, qTup_l, qTup_t, qLst_l, qLst_t, qTru_n, qTru_b, qTru_i, qTru_s, qTru_l, qTru_t, qSum_l, qAny_l, qAny_t, qJoin_l, qCount_s, qEq_e, qNe_e, qRepr_e, dAsgT, dNeg, qNeg_i, dgTup, dgCons, dgName, dgNil, dPar, diR1, diOwn, diSeq, diL, diZip, diZipM, diVar, dParL, startS, toS, List.map_cons, List.map_nil, List.length_cons, List.length_nil, List.replicate, List.cons_append, List.nil_append, List.append_nil, List.getElem?_cons_zero, List.getElem?_cons_succ, List.set_cons_zero, List.set_cons_succ, Nat.reduceSub, Nat.reduceAdd, wipeS, canD, if_true, if_false, ite_true, ite_false, Bool.false_eq_true, PyData.bool.injEq, exists_eq_left', exists_eq_left, shp_i, shp_s, shp_b, shp_n, shp_e, shp_z, eqv_tt, eqv_lt, eqv_i, true_and, ix0, ix1, ix2, Option.some.injEq, PyData.tuple.injEq, PyData.list.injEq, PyData.int.injEq, PyData.str.injEq, S.own.injEq]
    exact ⟨_, at_lp hq1, .inr rfl, _, rfl, rfl, rfl, hN _ _ ⟨rfl, rfl⟩⟩
  subst e1 e2
  have wpos := len_pos w1
  refine seq_mid (fun ss n2 => ∃ w' : Str, ss = [.dk, .d V, .d (.int k), .d (.tuple (txD r.1)), .d (.tuple (lpsD r.2)), .d (.int (s : Nat)), .d (.int (q : Nat)), .un, .d (.str w'), .d (fmD (lf r q)), .un] ∧ n' + 3 ≤ n2 ∧ n2 ≤ n' + 4 ∧ w' ≠ nilS ∧ abc w' ∧ w'.length ≤ b + 1) (fun N hN => ?_) (fun ss n2 ⟨w', e1, b1, b2, v1, v2, v3⟩ => ?_)
  · refine if_known (decide (s = 1)) (fun Q hQ => ?_) ?_
    · simp (config := { maxSteps := 1000000 }) only [dIsi, Kd.of, dSetA, dAsgTA, dAppA, dExt, dgLst, dParLL, qSum2_l, qSum2_t, unS_d, unS_own, unS_dk, unS_un, qLe2_i, qLe2_s, qAll_l, dExt2, dPar3, dFind3, dRevS, diEnum, dSeq, dSet, dSetL, dRet, dRetO, dRetL, dIfS, dNext, dApp, dSetIx, dVar, dC, dOp, dFn, dFnL, dCons, dNil, dArg, dArgV, onD, datas, dTup, dLst, dLstL, dOfL, dAddL, dMulL, dIf, dTest, dTru, dNot, dAnd, dOr, dNotV, dAndV, dOrV, dSl, dPart, dNoPart, dCall, dMt, qAdd_i, qAdd_s, qAdd_t, qAdd_l, qSub_i, qDiv_i, qMod_i, qPow_i, qMul_i, qMul_s, qMul_t, qMul_l, qLt_i, qLe_i, qGt_i, qGe_i, qIx_l, qIx_t, qIx_s, qSl_l, qSl_t, qSl_s, qLen_l, qLen_t, qLen_s, qInt_i, qInt_b, qMin_i, qMax_i, qTup_l, qTup_t, qLst_l, qLst_t, qTru_n, qTru_b, qTru_i, qTru_s, qTru_l, qTru_t, qSum_l, qAny_l, qAny_t, qJoin_l, qCount_s, qEq_e, qNe_e, qRepr_e, dAsgT, dNeg, qNeg_i, dgTup, dgCons, dgName, dgNil, dPar, diR1, diOwn, diSeq, diL, diZip, diZipM, diVar, dParL, startS, toS, List.map_cons, List.map_nil, List.length_cons, List.length_nil, List.replicate, List.cons_append, List.nil_append, List.append_nil, List.getElem?_cons_zero, List.getElem?_cons_succ, List.set_cons_zero, List.set_cons_succ, Nat.reduceSub, Nat.reduceAdd, wipeS, canD, if_true, if_false, ite_true, ite_false, Bool.false_eq_true, PyData.bool.injEq, exists_eq_left', exists_eq_left, shp_i, shp_s, shp_b, shp_n, shp_e, shp_z, eqv_tt, eqv_lt, eqv_i, true_and, ix0, ix1, ix2, Option.some.injEq, PyData.tuple.injEq, PyData.list.injEq, PyData.int.injEq, PyData.str.injEq, S.own.injEq]
      rw [show decide ((s : Int) = 1) = decide (s = 1) from decide_eq_decide.mpr (by omega)]
      exact hQ
    · by_cases hs : s = 1
      · rw [if_pos (decide_eq_true hs)]
        simp (config := { maxSteps := 1000000 }) only [dIsi, Kd.of, dSetA, dAsgTA, dAppA, dExt, dgLst, dParLL, qSum2_l, qSum2_t, unS_d, unS_own, unS_dk, unS_un, qLe2_i, qLe2_s, qAll_l, dExt2, dPar3, dFind3, dRevS, diEnum, dSeq, dSet, dSetL, dRet, dRetO, dRetL, dIfS, dNext, dApp, dSetIx, dVar, dC, dOp, dFn, dFnL, dCons, dNil, dArg, dArgV, onD, datas, dTup, dLst, dLstL, dOfL, dAddL, dMulL, dIf, dTest, dTru, dNot, dAnd, dOr, dNotV, dAndV, dOrV, dSl, dPart, dNoPart, dCall, dMt, qAdd_i, qAdd_s, qAdd_t, qAdd_l, qSub_i, qDiv_i, qMod_i, qPow_i, qMul_i, qMul_s, qMul_t, qMul_l, qLt_i, qLe_i, qGt_i, qGe_i, qIx_l, qIx_t, qIx_s, qSl_l, qSl_t, qSl_s, qLen_l, qLen_t, qLen_s, qInt_i, qInt_b, qMin_i, qMax_i, qTup_l, qTup_t, qLst_l, qLst_t, qTru_n, qTru_b, qTru_i, qTru_s, qTru_l, qTru_t, qSum_l, qAny_l, qAny_t, qJoin_l, qCount_s, qEq_e, qNe_e, qRepr_e, dAsgT, dNeg, qNeg_i, dgTup, dgCons, dgName, dgNil, dPar, diR1, diOwn, diSeq, diL, diZip, diZipM, diVar, dParL, startS, toS, List.map_cons, List.map_nil, List.length_cons, List.length_nil, List.replicate, List.cons_append, List.nil_append, List.append_nil, List.getElem?_cons_zero, List.getElem?_cons_succ, List.set_cons_zero, List.set_cons_succ, Nat.reduceSub, Nat.reduceAdd, wipeS, canD, if_true, if_false, ite_true, ite_false, Bool.false_eq_true, PyData.bool.injEq, exists_eq_left', exists_eq_left, shp_i, shp_s, shp_b, shp_n, shp_e, shp_z, eqv_tt, eqv_lt, eqv_i, true_and, ix0, ix1, ix2, Option.some.injEq, PyData.tuple.injEq, PyData.list.injEq, PyData.int.injEq, PyData.str.injEq, S.own.injEq]
        have c1 := cutS_length (lw r q) (some 1) none
        have c2 := cutS_length (lw r q) none (some 1)
        have m1 : (cutS (lw r q) (some 1) none).length = (lw r q).length - 1 := by rw [str_len, show (1 : Int) = ((1 : Nat) : Int) from rfl, cut_from, List.length_drop, ← str_len]
        have m2 : (cutS (lw r q) none (some 1)).length = 1 := by rw [str_len, show (1 : Int) = ((1 : Nat) : Int) from rfl, cut_to, List.length_take, ← str_len]; omega
        refine ⟨sz6 (by omega), sz6 (by omega), sz6 (by omega), sz6 (by omega), sz6 (by omega), sz6 (by omega), sz6 (by decide), ?_⟩
        refine use_one (by simp) (by simp) (by omega) fun y hy => ?_
        have nonil : ∀ z : Str, 1 ≤ z.length → z ≠ nilS := fun z h e => by rw [e] at h; exact absurd h (by decide)
        simp only [List.mem_cons, List.not_mem_nil, or_false] at hy
        rcases hy with rfl | rfl | rfl | rfl
        · obtain ⟨a1, a2⟩ := word4 (lw r q) _ _ w2 abcA abcB (by omega) (by omega) _ (.inl rfl)
          exact ⟨.inl rfl, hN _ _ ⟨_, rfl, by omega, by omega, nonil _ (by rw [app_len]; omega), a1, by omega⟩⟩
        · exact ⟨.inl rfl, hN _ _ ⟨_, rfl, by omega, by omega, nonil _ (by rw [revS_len]; omega), (fun c hc => w2 c (List.mem_reverse.mp hc)), by rw [revS_len]; omega⟩⟩
        · obtain ⟨a1, a2⟩ := word4 (lw r q) _ _ w2 abcA abcB (by omega) (by omega) _ (.inr rfl)
          exact ⟨.inl rfl, hN _ _ ⟨_, rfl, by omega, by omega, nonil _ (by rw [app_len]; omega), a1, by omega⟩⟩
        · exact ⟨.inl rfl, hN _ _ ⟨_, rfl, by omega, by omega, nonil _ (by rw [app_len]; omega), abc_app (abc_cut w2 _ _) (abc_cut w2 _ _), by rw [app_len]; omega⟩⟩
      · rw [if_neg (by rw [decide_eq_true_eq]; exact hs)]
        exact hN _ _ ⟨_, rfl, by omega, by omega, w1, w2, by omega⟩
  subst e1
  have hcutf : ∀ (f : List Nat) (p : Nat), cut (fI f) none (some (p : Int)) = fI (f.take p) := fun f p => by rw [cutD_to]; exact (List.map_take ..).symm
  have hcutb : ∀ (f : List Nat) (p : Nat), cut (fI f) (some ((p : Nat) : Int)) none = fI (f.drop p) := fun f p => by rw [cutD_from]; exact (List.map_drop ..).symm
  refine seq_mid (fun ss n3 => ∃ f' : List Nat, ss = [.dk, .d V, .d (.int k), .d (.tuple (txD r.1)), .d (.tuple (lpsD r.2)), .d (.int (s : Nat)), .d (.int (q : Nat)), .un, .d (.str w'), .d (fmD f'), .un] ∧ n3 = n2 ∧ f'.length = k + 1 ∧ isOpen f' = true ∧ ∀ x ∈ f', x ≤ X + 1) (fun N hN => ?_) (fun ss n3 ⟨f', e1, e2, u1, u2, u3⟩ => ?_)
  · refine if_known (decide (s = 2)) (fun Q hQ => ?_) ?_
    · simp (config := { maxSteps := 1000000 }) only [dIsi, Kd.of, dSetA, dAsgTA, dAppA, dExt, dgLst, dParLL, qSum2_l, qSum2_t, unS_d, unS_own, unS_dk, unS_un, qLe2_i, qLe2_s, qAll_l, dExt2, dPar3, dFind3, dRevS, diEnum, dSeq, dSet, dSetL, dRet, dRetO, dRetL, dIfS, dNext, dApp, dSetIx, dVar, dC, dOp, dFn, dFnL, dCons, dNil, dArg, dArgV, onD, datas, dTup, dLst, dLstL, dOfL, dAddL, dMulL, dIf, dTest, dTru, dNot, dAnd, dOr, dNotV, dAndV, dOrV, dSl, dPart, dNoPart, dCall, dMt, qAdd_i, qAdd_s, qAdd_t, qAdd_l, qSub_i, qDiv_i, qMod_i, qPow_i, qMul_i, qMul_s, qMul_t, qMul_l, qLt_i, qLe_i, qGt_i, qGe_i, qIx_l, qIx_t, qIx_s, qSl_l, qSl_t, qSl_s, qLen_l, qLen_t, qLen_s, qInt_i, qInt_b, qMin_i, qMax_i, qTup_l, qTup_t, qLst_l, qLst_t, qTru_n, qTru_b, qTru_i, qTru_s, qTru_l, qTru_t, qSum_l, qAny_l, qAny_t, qJoin_l, qCount_s, qEq_e, qNe_e, qRepr_e, dAsgT, dNeg, qNeg_i, dgTup, dgCons, dgName, dgNil, dPar, diR1, diOwn, diSeq, diL, diZip, diZipM, diVar, dParL, startS, toS, List.map_cons, List.map_nil, List.length_cons, List.length_nil, List.replicate, List.cons_append, List.nil_append, List.append_nil, List.getElem?_cons_zero, List.getElem?_cons_succ, List.set_cons_zero, List.set_cons_succ, Nat.reduceSub, Nat.reduceAdd, wipeS, canD, if_true, if_false, ite_true, ite_false, Bool.false_eq_true, PyData.bool.injEq, exists_eq_left', exists_eq_left, shp_i, shp_s, shp_b, shp_n, shp_e, shp_z, eqv_tt, eqv_lt, eqv_i, true_and, ix0, ix1, ix2, Option.some.injEq, PyData.tuple.injEq, PyData.list.injEq, PyData.int.injEq, PyData.str.injEq, S.own.injEq]
      rw [show decide ((s : Int) = 2) = decide (s = 2) from decide_eq_decide.mpr (by omega)]
      exact hQ
    · by_cases hs : s = 2
      · rw [if_pos (decide_eq_true hs)]
        simp (config := { maxSteps := 1000000 }) only [dIsi, Kd.of, dSetA, dAsgTA, dAppA, dExt, dgLst, dParLL, qSum2_l, qSum2_t, unS_d, unS_own, unS_dk, unS_un, qLe2_i, qLe2_s, qAll_l, dExt2, dPar3, dFind3, dRevS, diEnum, dSeq, dSet, dSetL, dRet, dRetO, dRetL, dIfS, dNext, dApp, dSetIx, dVar, dC, dOp, dFn, dFnL, dCons, dNil, dArg, dArgV, onD, datas, dTup, dLst, dLstL, dOfL, dAddL, dMulL, dIf, dTest, dTru, dNot, dAnd, dOr, dNotV, dAndV, dOrV, dSl, dPart, dNoPart, dCall, dMt, qAdd_i, qAdd_s, qAdd_t, qAdd_l, qSub_i, qDiv_i, qMod_i, qPow_i, qMul_i, qMul_s, qMul_t, qMul_l, qLt_i, qLe_i, qGt_i, qGe_i, qIx_l, qIx_t, qIx_s, qSl_l, qSl_t, qSl_s, qLen_l, qLen_t, qLen_s, qInt_i, qInt_b, qMin_i, qMax_i, qTup_l, qTup_t, qLst_l, qLst_t, qTru_n, qTru_b, qTru_i, qTru_s, qTru_l, qTru_t, qSum_l, qAny_l, qAny_t, qJoin_l, qCount_s, qEq_e, qNe_e, qRepr_e, dAsgT, dNeg, qNeg_i, dgTup, dgCons, dgName, dgNil, dPar, diR1, diOwn, diSeq, diL, diZip, diZipM, diVar, dParL, startS, toS, List.map_cons, List.map_nil, List.length_cons, List.length_nil, List.replicate, List.cons_append, List.nil_append, List.append_nil, List.getElem?_cons_zero, List.getElem?_cons_succ, List.set_cons_zero, List.set_cons_succ, Nat.reduceSub, Nat.reduceAdd, wipeS, canD, if_true, if_false, ite_true, ite_false, Bool.false_eq_true, PyData.bool.injEq, exists_eq_left', exists_eq_left, shp_i, shp_s, shp_b, shp_n, shp_e, shp_z, eqv_tt, eqv_lt, eqv_i, true_and, ix0, ix1, ix2, Option.some.injEq, PyData.tuple.injEq, PyData.list.injEq, PyData.int.injEq, PyData.str.injEq, S.own.injEq]
        have e0 : cut (fI (lf r q)) (some 1) none = fI (lf r q).tail := by rw [cut_tail, tail_fI]
        have e1 : PyData.tuple ([PyData.int ((((lf r q).headD 0 : Nat) : Int) + 1)] ++ cut (fI (lf r q)) (some 1) none) = fmD (((lf r q).headD 0 + 1) :: (lf r q).tail) := by
          rw [e0, show (((lf r q).headD 0 : Nat) : Int) + 1 = (((lf r q).headD 0 + 1 : Nat) : Int) by omega]
          rfl
        have l0 : 1 + (cut (fI (lf r q)) (some 1) none).length ≤ 5 := by rw [e0, List.length_map, List.length_tail]; omega
        have fin := hN _ _ ⟨((lf r q).headD 0 + 1) :: (lf r q).tail, rfl, rfl, by rw [List.length_cons, List.length_tail]; omega, w5, fun x hx => ?_⟩
        · rw [← e1] at fin
          exact ⟨_, f0_at w4, sz6 (Nat.le_of_lt (by decide : 1 < 1000000)), sz6 (Nat.le_trans l0 (by decide)), .inr rfl, fin⟩
        · rcases List.mem_cons.mp hx with rfl | hx
          · have : (lf r q).headD 0 ≤ X := by
              cases hf : lf r q with
              | nil => exact Nat.zero_le _
              | cons a g => exact w6 a (by rw [hf]; exact List.mem_cons_self)
            omega
          · have := w6 x (List.mem_of_mem_tail hx)
            omega
      · rw [if_neg (by rw [decide_eq_true_eq]; exact hs)]
        exact hN _ _ ⟨_, rfl, rfl, w4, w5, fun x hx => by have := w6 x hx; omega⟩
  subst e1 e2
  have hk1 : 1 ≤ k := by
    rw [open_sum, decide_eq_true_eq] at u2
    cases f' with
    | nil => simp at u1
    | cons a g =>
      cases g with
      | nil => exact absurd rfl u2
      | cons c g => simp at u1; omega
  refine seq_mid (fun ss n4 => ∃ (f'' : List Nat) (s10 : S), ss = [.dk, .d V, .d (.int k), .d (.tuple (txD r.1)), .d (.tuple (lpsD r.2)), .d (.int (s : Nat)), .d (.int (q : Nat)), .un, .d (.str w'), .d (fmD f''), s10] ∧ n' + 3 ≤ n4 ∧ n4 ≤ n' + 5 ∧ f''.length = k + 1 ∧ isOpen f'' = true ∧ ∀ x ∈ f'', x ≤ X + 2) (fun N hN => ?_) (fun ss n4 ⟨f'', s10, e1, b3, b4, u4, u5, u6⟩ => ?_)
  · refine if_known (decide (s > 2)) (fun Q hQ => ?_) ?_
    · simp (config := { maxSteps := 1000000 }) only [dIsi, Kd.of, dSetA, dAsgTA, dAppA, dExt, dgLst, dParLL, qSum2_l, qSum2_t, unS_d, unS_own, unS_dk, unS_un, qLe2_i, qLe2_s, qAll_l, dExt2, dPar3, dFind3, dRevS, diEnum, dSeq, dSet, dSetL, dRet, dRetO, dRetL, dIfS, dNext, dApp, dSetIx, dVar, dC, dOp, dFn, dFnL, dCons, dNil, dArg, dArgV, onD, datas, dTup, dLst, dLstL, dOfL, dAddL, dMulL, dIf, dTest, dTru, dNot, dAnd, dOr, dNotV, dAndV, dOrV, dSl, dPart, dNoPart, dCall, dMt, qAdd_i, qAdd_s, qAdd_t, qAdd_l, qSub_i, qDiv_i, qMod_i, qPow_i, qMul_i, qMul_s, qMul_t, qMul_l, qLt_i, qLe_i, qGt_i, qGe_i, qIx_l, qIx_t, qIx_s, qSl_l, qSl_t, qSl_s, qLen_l, qLen_t, qLen_s, qInt_i, qInt_b, qMin_i, qMax_i, qTup_l, qTup_t, qLst_l, qLst_t, qTru_n, qTru_b, qTru_i, qTru_s, qTru_l, qTru_t, qSum_l, qAny_l, qAny_t, qJoin_l, qCount_s, qEq_e, qNe_e, qRepr_e, dAsgT, dNeg, qNeg_i, dgTup, dgCons, dgName, dgNil, dPar, diR1, diOwn, diSeq, diL, diZip, diZipM, diVar, dParL, startS, toS, List.map_cons, List.map_nil, List.length_cons, List.length_nil, List.replicate, List.cons_append, List.nil_append, List.append_nil, List.getElem?_cons_zero, List.getElem?_cons_succ, List.set_cons_zero, List.set_cons_succ, Nat.reduceSub, Nat.reduceAdd, wipeS, canD, if_true, if_false, ite_true, ite_false, Bool.false_eq_true, PyData.bool.injEq, exists_eq_left', exists_eq_left, shp_i, shp_s, shp_b, shp_n, shp_e, shp_z, eqv_tt, eqv_lt, eqv_i, true_and, ix0, ix1, ix2, Option.some.injEq, PyData.tuple.injEq, PyData.list.injEq, PyData.int.injEq, PyData.str.injEq, S.own.injEq]
      rw [show decide ((s : Int) > 2) = decide (s > 2) from decide_eq_decide.mpr (by omega)]
      exact hQ
    · by_cases hs : s > 2
      · rw [if_pos (decide_eq_true hs)]
        simp only [dSeq]
        simp (config := { maxSteps := 1000000 }) only [dIsi, Kd.of, dSetA, dAsgTA, dAppA, dExt, dgLst, dParLL, qSum2_l, qSum2_t, unS_d, unS_own, unS_dk, unS_un, qLe2_i, qLe2_s, qAll_l, dExt2, dPar3, dFind3, dRevS, diEnum, dSeq, dSet, dSetL, dRet, dRetO, dRetL, dIfS, dNext, dApp, dSetIx, dVar, dC, dOp, dFn, dFnL, dCons, dNil, dArg, dArgV, onD, datas, dTup, dLst, dLstL, dOfL, dAddL, dMulL, dIf, dTest, dTru, dNot, dAnd, dOr, dNotV, dAndV, dOrV, dSl, dPart, dNoPart, dCall, dMt, qAdd_i, qAdd_s, qAdd_t, qAdd_l, qSub_i, qDiv_i, qMod_i, qPow_i, qMul_i, qMul_s, qMul_t, qMul_l, qLt_i, qLe_i, qGt_i, qGe_i, qIx_l, qIx_t, qIx_s, qSl_l, qSl_t, qSl_s, qLen_l, qLen_t, qLen_s, qInt_i, qInt_b, qMin_i, qMax_i, qTup_l, qTup_t, qLst_l, qLst_t, qTru_n, qTru_b, qTru_i, qTru_s, qTru_l, qTru_t, qSum_l, qAny_l, qAny_t, qJoin_l, qCount_s, qEq_e, qNe_e, qRepr_e, dAsgT, dNeg, qNeg_i, dgTup, dgCons, dgName, dgNil, dPar, diR1, diOwn, diSeq, diL, diZip, diZipM, diVar, dParL, startS, toS, List.map_cons, List.map_nil, List.length_cons, List.length_nil, List.replicate, List.cons_append, List.nil_append, List.append_nil, List.getElem?_cons_zero, List.getElem?_cons_succ, List.set_cons_zero, List.set_cons_succ, Nat.reduceSub, Nat.reduceAdd, wipeS, canD, if_true, if_false, ite_true, ite_false, Bool.false_eq_true, PyData.bool.injEq, exists_eq_left', exists_eq_left, shp_i, shp_s, shp_b, shp_n, shp_e, shp_z, eqv_tt, eqv_lt, eqv_i, true_and, ix0, ix1, ix2, Option.some.injEq, PyData.tuple.injEq, PyData.list.injEq, PyData.int.injEq, PyData.str.injEq, S.own.injEq]
        refine use_draw (by omega) (by omega) (by omega) fun p hp => ?_
        have ep : (1 : Int) + (p : Int) = ((p + 1 : Nat) : Int) := by omega
        have hp1 : p + 1 < f'.length := by omega
        obtain ⟨v, hv⟩ : ∃ v, v = f'[p + 1] := ⟨_, rfl⟩
        have hat : atI (fI f') ((p + 1 : Nat) : Int) = some (.int (v : Nat)) := by
          rw [atI_ofNat, List.getElem?_map, List.getElem?_eq_getElem hp1, ← hv]
          rfl
        have hvX : v ≤ X + 1 := by rw [hv]; exact u3 _ (List.getElem_mem hp1)
        have l1 : (cut (fI f') none (some ((p + 1 : Nat) : Int))).length ≤ 4 := by rw [hcutf, List.length_map]; exact Nat.le_trans (List.length_take_le' _ _) (by omega)
        have l2 : (cut (fI f') (some (((p + 1 : Nat) : Int) + 1)) none).length ≤ 4 := by rw [show ((p + 1 : Nat) : Int) + 1 = ((p + 2 : Nat) : Int) by omega, hcutb, List.length_map, List.length_drop]; omega
        have eset : PyData.tuple (cut (fI f') none (some ((p + 1 : Nat) : Int)) ++ [PyData.int ((v : Int) + 1)] ++ cut (fI f') (some (((p + 1 : Nat) : Int) + 1)) none) = fmD (f'.set (p + 1) (v + 1)) := by
          rw [show ((p + 1 : Nat) : Int) + 1 = ((p + 2 : Nat) : Int) by omega, hcutf, hcutb, List.set_eq_take_append_cons_drop, if_pos hp1, show (v : Int) + 1 = ((v + 1 : Nat) : Int) by omega]
          simp [fmD]
        have fin := hN _ (n3 + 1) ⟨f'.set (p + 1) (v + 1), .d (.int ((p + 1 : Nat) : Int)), rfl, by omega, by omega, by rw [List.length_set]; exact u1, ?_, fun x hx => ?_⟩
        · rw [← eset] at fin
          show (NL (PyData.int ((1 : Int) + (p : Int))) = true ∨ _) ∧ _
          rw [ep]
          refine ⟨.inl rfl, _, rfl, _, hat, sz6 (Nat.le_of_lt (by decide : 1 < 1000000)), sz6 (by show (cut (fI f') none (some ((p + 1 : Nat) : Int))).length + 1 ≤ 1000000; omega), _, rfl, sz6 (by show (cut (fI f') none (some ((p + 1 : Nat) : Int)) ++ [_]).length + (cut (fI f') (some (((p + 1 : Nat) : Int) + 1)) none).length ≤ 1000000; rw [List.length_append, List.length_singleton]; omega), .inr rfl, fin⟩
        · rw [open_sum, decide_eq_true_eq]
          cases f' with
          | nil => simp at u1
          | cons a g =>
            rw [List.set_cons_succ, List.tail_cons]
            have hg : p < g.length := by simpa using hp1
            have : v + 1 ∈ g.set p (v + 1) := List.mem_iff_getElem.mpr ⟨p, by rw [List.length_set]; exact hg, by simp⟩
            have := mem_sum this
            omega
        · rcases List.mem_or_eq_of_mem_set hx with hx | rfl
          · have := u3 x hx; omega
          · omega
      · rw [if_neg (by rw [decide_eq_true_eq]; exact hs)]
        exact hN _ _ ⟨_, .un, rfl, by omega, by omega, u1, u2, fun x hx => by have := u3 x hx; omega⟩
  subst e1
  simp only [dRet]
  simp (config := { maxSteps := 1000000 }) only [dIsi, Kd.of, dSetA, dAsgTA, dAppA, dExt, dgLst, dParLL, qSum2_l, qSum2_t, unS_d, unS_own, unS_dk, unS_un, qLe2_i, qLe2_s, qAll_l, dExt2, dPar3, dFind3, dRevS, diEnum, dSeq, dSet, dSetL, dRet, dRetO, dRetL, dIfS, dNext, dApp, dSetIx, dVar, dC, dOp, dFn, dFnL, dCons, dNil, dArg, dArgV, onD, datas, dTup, dLst, dLstL, dOfL, dAddL, dMulL, dIf, dTest, dTru, dNot, dAnd, dOr, dNotV, dAndV, dOrV, dSl, dPart, dNoPart, dCall, dMt, qAdd_i, qAdd_s, qAdd_t, qAdd_l, qSub_i, qDiv_i, qMod_i, qPow_i, qMul_i, qMul_s, qMul_t, qMul_l, qLt_i, qLe_i, qGt_i, qGe_i, qIx_l, qIx_t, qIx_s, qSl_l, qSl_t, qSl_s, qLen_l, qLen_t, qLen_s, qInt_i, qInt_b, qMin_i, qMax_i, qTup_l, qTup_t, qLst_l, qLst_t, qTru_n, qTru_b, qTru_i, qTru_s, qTru_l, qTru_t, qSum_l, qAny_l, qAny_t, qJoin_l, qCount_s, qEq_e, qNe_e, qRepr_e, dAsgT, dNeg, qNeg_i, dgTup, dgCons, dgName, dgNil, dPar, diR1, diOwn, diSeq, diL, diZip, diZipM, diVar, dParL, startS, toS, List.map_cons, List.map_nil, List.length_cons, List.length_nil, List.replicate, List.cons_append, List.nil_append, List.append_nil, List.getElem?_cons_zero, List.getElem?_cons_succ, List.set_cons_zero, List.set_cons_succ, Nat.reduceSub, Nat.reduceAdd, wipeS, canD, if_true, if_false, ite_true, ite_false, Bool.false_eq_true, PyData.bool.injEq, exists_eq_left', exists_eq_left, shp_i, shp_s, shp_b, shp_n, shp_e, shp_z, eqv_tt, eqv_lt, eqv_i, true_and, ix0, ix1, ix2, Option.some.injEq, PyData.tuple.injEq, PyData.list.injEq, PyData.int.injEq, PyData.str.injEq, S.own.injEq]
  have e3 : cut (lpsD r.2) none (some (q : Int)) = lpsD (r.2.take q) := by rw [cutD_to, lpsD, lpsD, List.map_take]
  have e4 : cut (lpsD r.2) (some ((q : Int) + 1)) none = lpsD (r.2.drop (q + 1)) := by rw [show (q : Int) + 1 = ((q + 1 : Nat) : Int) by omega, cutD_from, lpsD, lpsD, List.map_drop]
  have l3 : (lpsD (r.2.take q)).length ≤ 12 := by rw [lpsD, List.length_map]; exact Nat.le_trans (List.length_take_le' _ _) h2
  have l4 : (lpsD (r.2.drop (q + 1))).length ≤ 12 := by rw [lpsD, List.length_map, List.length_drop]; omega
  simp only [e3, e4, List.length_append, List.length_singleton]
  have es := set_loop hq1 (w', f'')
  simp only at es
  rw [es]
  refine ⟨sz6 (by decide), sz6 (by decide), sz6 (by omega), sz6 (by omega), sz6 (by decide), hq (r.1, r.2.set q (w', f'')) _ ⟨?_, ?_, fun y hy => ?_, fun p hp => ?_⟩ (by omega) (by omega)⟩
  · show r.1.length = (r.2.set q (w', f'')).length + 1
    rw [List.length_set]; exact h1
  · show (r.2.set q (w', f'')).length ≤ 12
    rw [List.length_set]; exact h2
  · exact ⟨(h3 y hy).1, by have := (h3 y hy).2; omega⟩
  · rcases List.mem_or_eq_of_mem_set hp with hp | rfl
    · obtain ⟨a1, a2, a3, a4, a5, a6⟩ := h4 p hp
      exact ⟨a1, a2, by omega, a4, a5, fun x hx => by have := a6 x hx; omega⟩
    · exact ⟨v1, v2, v3, u4, u5, u6⟩
end
end Law

namespace Law
open PySem PySem.Spec PyProof.Rows L2 Ev
/-! ### rows by repr -/
theorem wl_le {ls : List (Str × List Nat)} {p : Str × List Nat} (h : p ∈ ls) : p.1.length ≤ wl ls := by
  unfold wl
  induction ls with
  | nil => cases h
  | cons q r ih =>
    rw [List.map_cons, List.sum_cons]
    rcases List.mem_cons.mp h with e | h
    · rw [e]
      have : q.1.length * 1 ≤ q.1.length * (1 + q.2.headD 0) := Nat.mul_le_mul_left _ (by omega)
      omega
    · have := ih h
      omega
theorem wt_tx : ∀ ts : List Str, wtA (txD ts) = 10 * (ts.map fun z => z.length).sum + 4 * ts.length
  | [] => rfl
  | z :: r => by
    have ih := wt_tx r
    show wt (.str z) + 2 + wtA (txD r) = _
    rw [ih, List.map_cons, List.sum_cons, List.length_cons]
    simp only [wt]
    omega
theorem row_calm {k : Nat} {r : Rw} (hf : rwFine k r) (hk : k ≤ 3) (hl : r.1.length = r.2.length + 1) (h12 : r.2.length ≤ 12) (hs : rsz r ≤ 300) : nice (rowD k r) = true ∧ wt (rowD k r) ≤ 140000 ∧ (rowD k r).depth ≤ 4 := by
  have hlp : ∀ p ∈ r.2, nice (lpD p) = true ∧ wt (lpD p) ≤ 10710 ∧ (lpD p).depth ≤ 2 := fun p hp => by
    obtain ⟨h1, h2, h3, h4, h5, h6, h7⟩ := hf.2 p hp
    have a1 := nice_fm (f := p.2) fun x hx => Nat.le_trans (h6 x hx) (by decide)
    have a2 := wt_fm p.2
    have a3 := depth_fm p.2
    have a4 : p.1.length ≤ 300 := by
      have := wl_le hp
      unfold rsz at hs
      omega
    refine ⟨?_, ?_, ?_⟩
    · simp only [lpD, nice, niceA, sok_abc h2, a1]
      rfl
    · simp only [lpD, wt, wtA]
      omega
    · refine depth_t fun x hx => ?_
      simp only [List.mem_cons, List.not_mem_nil, or_false] at hx
      rcases hx with rfl | rfl
      · simp [PyData.depth]
      · exact a3
  have n1 : niceA (txD r.1) = true := niceA_iff.mpr fun x hx => by
    obtain ⟨z, hz, rfl⟩ := List.mem_map.mp hx
    simp only [nice]
    exact sok_abc (hf.1 z hz)
  have n2 : niceA (lpsD r.2) = true := niceA_iff.mpr fun x hx => by
    obtain ⟨p, hp, rfl⟩ := List.mem_map.mp hx
    exact (hlp p hp).1
  have w2 : wtA (lpsD r.2) ≤ (10710 + 2) * (lpsD r.2).length := wtA_le fun x hx => by
    obtain ⟨p, hp, rfl⟩ := List.mem_map.mp hx
    exact (hlp p hp).2.1
  have w1 := wt_tx r.1
  have ll : (lpsD r.2).length = r.2.length := List.length_map _
  rw [ll] at w2
  refine ⟨?_, ?_, ?_⟩
  · have n0 : nice (.int (k : Int)) = true := nice_nat (Nat.le_trans hk (by decide))
    simp only [rowD, nice, niceA, n1, n2]
    simp only [nice] at n0
    rw [n0]
    rfl
  · simp only [rowD, wt, wtA, w1]
    unfold rsz tl at hs
    omega
  · refine depth_t fun x hx => ?_
    simp only [List.mem_cons, List.not_mem_nil, or_false] at hx
    rcases hx with rfl | rfl | rfl
    · simp [PyData.depth]
    · refine Nat.le_trans (depth_t (m := 0) fun y hy => ?_) (by decide)
      obtain ⟨z, _, rfl⟩ := List.mem_map.mp hy
      simp [PyData.depth]
    · refine depth_t (m := 2) fun y hy => ?_
      obtain ⟨p, hp, rfl⟩ := List.mem_map.mp hy
      exact (hlp p hp).2.2
end Law

namespace Law
open PySem PySem.Spec PyProof.Rows L2 Ev
/-! ### programs by repr -/
mutual
theorem niceB_part {k : Nat} : ∀ (p : Part) (cl : Bool), Fine k cl p → nice p.data = true
  | .text w, _, h => by
    simp only [Part.data, nice, niceA, sok_abc h.2, sok_lit (Str.ofString "text") (by decide +kernel)]
    rfl
  | .loop f ps, cl, h => by
    have h1 := nice_fm (f := f) fun x hx => Nat.le_trans (h.2.1 x hx) (by decide)
    have h2 := niceB_parts ps _ h.2.2.2.2.2
    simp only [Part.data, nice, niceA, h1, h2, sok_lit (Str.ofString "loop") (by decide +kernel)]
    rfl
theorem niceB_parts {k : Nat} : ∀ (ps : List Part) (cl : Bool), FineAll k cl ps → niceA (dataAll ps) = true
  | [], _, _ => rfl
  | p :: r, cl, h => by simp only [dataAll, niceA, niceB_part p cl h.1, niceB_parts r cl h.2, Bool.and_self]
end
mutual
theorem wtB_part {k : Nat} (hk : k ≤ 3) : ∀ (p : Part) (cl : Bool), Fine k cl p → wt p.data ≤ 8000 * 4 ^ p.dep
  | .text w, _, h => by
    have hl : w.length ≤ 4 := h.1
    have e : (Str.ofString "text").length = 4 := by decide +kernel
    simp only [Part.data, wt, wtA, Part.dep, e]
    omega
  | .loop f ps, cl, h => by
    have h1 := wt_fm f
    have h2 := wtB_parts hk ps _ h.2.2.2.2.2
    have e : (Str.ofString "loop").length = 4 := by decide +kernel
    have hf : f.length = k + 1 := h.1
    have hl : ps.length ≤ 3 := h.2.2.2.2.1
    simp only [Part.data, wt, wtA, Part.dep, e]
    have h3 : ps.length * (8000 * 4 ^ depAll ps + 2) ≤ 3 * (8000 * 4 ^ depAll ps + 2) := Nat.mul_le_mul_right _ hl
    have h4 : 8000 * 4 ^ (depAll ps + 1) = 8000 * 4 ^ depAll ps * 4 := by rw [Nat.pow_succ, ← Nat.mul_assoc]
    have h5 : 1 ≤ 4 ^ depAll ps := Nat.one_le_pow _ _ (by decide)
    omega
theorem wtB_parts {k : Nat} (hk : k ≤ 3) : ∀ (ps : List Part) (cl : Bool), FineAll k cl ps → wtA (dataAll ps) ≤ ps.length * (8000 * 4 ^ depAll ps + 2)
  | [], _, _ => Nat.zero_le _
  | p :: r, cl, h => by
    have h1 := wtB_part hk p cl h.1
    have h2 := wtB_parts hk r cl h.2
    have h3 : 4 ^ p.dep ≤ 4 ^ depAll (p :: r) := Nat.pow_le_pow_right (by decide) (Nat.le_max_left _ _)
    have h4 : 4 ^ depAll r ≤ 4 ^ depAll (p :: r) := Nat.pow_le_pow_right (by decide) (Nat.le_max_right _ _)
    have h5 : r.length * (8000 * 4 ^ depAll r + 2) ≤ r.length * (8000 * 4 ^ depAll (p :: r) + 2) := Nat.mul_le_mul_left _ (by omega)
    simp only [dataAll, wtA, List.length_cons]
    rw [Nat.add_mul r.length 1, Nat.one_mul]
    generalize 4 ^ depAll (p :: r) = m at *
    generalize 4 ^ p.dep = m1 at *
    generalize r.length * (8000 * m + 2) = m2 at *
    omega
end
mutual
theorem depthB_part : ∀ p : Part, p.data.depth ≤ 2 * p.dep + 1
  | .text w => by simp [Part.data, PyData.depth, PyData.depthAll]
  | .loop f ps => by
    have h1 := depth_fm f
    have h2 := depthB_parts ps
    simp only [Part.data, PyData.depth, PyData.depthAll, Part.dep]
    omega
theorem depthB_parts : ∀ ps : List Part, PyData.depthAll (dataAll ps) ≤ 2 * depAll ps + 1
  | [] => by simp [dataAll, PyData.depthAll]
  | p :: r => by
    have h1 := depthB_part p
    have h2 := depthB_parts r
    simp only [dataAll, PyData.depthAll, depAll]
    omega
end
theorem prog_nice {k : Nat} {cl : Bool} {ps : List Part} (h : FineAll k cl ps) (hk : k ≤ 3) (hl : ps.length ≤ 3) (hd : depAll ps ≤ 3) : nice (progD k ps) = true ∧ wt (progD k ps) ≤ 1540000 ∧ (progD k ps).depth ≤ 10 := by
  have h1 := niceB_parts ps cl h
  have h2 := wtB_parts hk ps cl h
  have h3 : 4 ^ depAll ps ≤ 64 := Nat.le_trans (Nat.pow_le_pow_right (by decide) hd) (by decide)
  have h4 : ps.length * (8000 * 4 ^ depAll ps + 2) ≤ 3 * (8000 * 64 + 2) := Nat.mul_le_mul hl (by omega)
  have h5 := depthB_parts ps
  refine ⟨?_, ?_, ?_⟩
  · simp only [progD, nice, niceA, h1, Bool.and_true]
    exact nice_nat (by omega)
  · simp only [progD, wt, wtA]
    omega
  · simp only [progD, PyData.depth, PyData.depthAll]
    omega
theorem shows_big {d : PyData} (h : nice d = true) (hd : d.depth ≤ 100) (hw : wt d ≤ 4000000) : shows d :=
  ⟨(nice_show d h).1, (nice_show d h).2, hd, Nat.le_trans (shown_le d h) (Nat.le_trans hw (by decide))⟩
end Law

namespace Law
open PySem PySem.Spec PyProof.Rows L2 Ev
/-! ### the law's def -/
theorem no_ite {c : Bool} {p q : Prop} (h : c = false) (hq : q) : if c = true then p else q := by rw [h]; exact hq
theorem neq_s {x y : Str} (h : x = y) : (!PyData.eqv (.str x) (.str y)) = false := by rw [h, eqv_refl_s]; rfl
theorem pi_of {k : Nat} {r : Rw} {m : Nat} (hf : rwFine k r) (hk : k ≤ 3) (hl : r.1.length = r.2.length + 1) (h12 : r.2.length ≤ 12) (hs : rsz r ≤ m) : PI k m (4000 * m) r := by
  have hw : wsm r.2 + csum r.2 = wl r.2 := by
    unfold wsm csum wl
    generalize r.2 = l
    induction l with
    | nil => rfl
    | cons p l ih =>
      simp only [List.map_cons, List.sum_cons]
      rw [Nat.mul_add, Nat.mul_one]
      omega
  have hm : msm r.2 ≤ 4000 * wsm r.2 := by
    have : ∀ l : List (Str × List Nat), (∀ p ∈ l, p.2.sum ≤ 4000) → msm l ≤ 4000 * wsm l := by
      intro l
      induction l with
      | nil => intro _; exact Nat.zero_le _
      | cons p l ih =>
        intro h
        have h1 := Nat.mul_le_mul_left p.1.length (h p List.mem_cons_self)
        have h2 := ih fun q hq => h q (List.mem_cons_of_mem _ hq)
        rw [msm_cons, wsm_cons]
        omega
    refine this _ fun p hp => ?_
    obtain ⟨g1, g2, g3, g4, g5, g6, g7⟩ := hf.2 p hp
    have hsum : ∀ l : List Nat, (∀ x ∈ l, x ≤ 999) → l.sum ≤ 999 * l.length := by
      intro l
      induction l with
      | nil => intro _; exact Nat.zero_le _
      | cons a l ih =>
        intro h
        have h1 := h a List.mem_cons_self
        have h2 := ih fun x hx => h x (List.mem_cons_of_mem _ hx)
        rw [List.sum_cons, List.length_cons]
        omega
    have := hsum p.2 g6
    omega
  have ht : lsm r.1 = tl r := rfl
  unfold rsz at hs
  refine ⟨hl, h12, hf.1, fun p hp => ?_, by omega, by omega, by omega⟩
  obtain ⟨g1, g2, g3, g4, g5, g6, g7⟩ := hf.2 p hp
  exact ⟨g1, g2, g4, g5⟩
section
variable {P : Program} {w : World} {K : PySem.W.Frag} {mg : Str → Option Value} {base : Heap}
theorem fin (T : Tops K mg) (B : Blt mg) (nd : base.NoDigits) {f : Addr} {fd : FuncData} (U : Fun K "law" "law" s_law f fd) : FnG P w K mg base CX0 20 f fd P_law (spLaw K) := by
  have C__law_draw : Cal P w K mg base "_law_draw" P__law_draw 1 (spD F_draw) := T.t_law_draw.cal fun f fd U => ok_draw U B.int B.len B.abs
  have C__law_one := c_one (P := P) (w := w) (base := base) T.t_law_one B C__law_draw
  have C__law_word := c_word T.t_law_word B C__law_one
  have C__law_form := c_form T.t_law_form B C__law_draw C__law_one
  have C__law_parts : Cal P w K mg base "_law_parts" P__law_parts 7 (spD (F_parts 4)) := c_parts T.t_law_parts B C__law_draw C__law_one C__law_word C__law_form 4
  have C__law_row : Cal P w K mg base "_law_row" P__law_row 5 (spD (F_row 4)) := c_row T.t_law_row B 4
  have C__law_size : Cal P w K mg base "_law_size" P__law_size 1 (spD F_size) := c_size T.t_law_size B
  have C__law_program := c_program T.t_law_program B C__law_parts C__law_row C__law_size
  have C_root_of := c_root_of (P := P) (w := w) (base := base) T.t_root_of B
  have C_is_plain := c_is_plain T.t_is_plain B C_root_of
  have C__law_cuts := c_cuts (P := P) (w := w) (base := base) T.t_law_cuts B
  have C__law_put := c_put (P := P) (w := w) (base := base) T.t_law_put B
  have C__law_turn := c_turn T.t_law_turn B C__law_put (c_turn_by T.t_law_turn_by B C__law_put)
  have C__law_plain := c_plain T.t_law_plain B C__law_one C__law_cuts C__law_turn
  have C__law_changed := c_changed T.t_law_changed B C__law_draw C__law_one
  refine law_frame (k := 19) (by decide) (c_deck T.t_law_deck B) U fun cdv A o s H E hr hg => ⟨_, _, (b_cons (s_for PassesOwn.never rfl (i_range1 (by rfl) B.range (a_cons (g_ l_int) a_nil)) (g_name (i := 2) sc_law.nd rfl (Or.inl rfl)) (b_cons (s_asgT (l_cal C__law_program (hr.mono (by omega)) hg (by rfl) (a_cons (gv 1) (a_cons (g_ (l_cal C__law_draw (hr.mono (by omega)) hg (by rfl) (a_cons (gv 1) (a_cons (g_ l_int) a_nil)))) (a_cons (g_ l_int) a_nil)))) (k_tup (n := 2) (K := K) (by rfl) (by rfl) (gs_cons (g_name (i := 3) sc_law.nd rfl (Or.inl rfl)) (gs_cons (g_name (i := 4) sc_law.nd rfl (Or.inl rfl)) gs_nil))))
  (b_cons (s_set (i := 5) sc_law.nd rfl (Or.inl rfl) (l_cal C__law_plain (hr.mono (by omega)) hg (by rfl) (a_cons (gv 1) (a_cons (gv 4) a_nil))))
  (b_cons (s_setL (i := 6) sc_law.nd rfl (Or.inl rfl) (f_lst (a_cons (gv 4) (a_cons (gv 5) a_nil))))
  (b_cons (s_for PassesOwn.never rfl (i_range1 (by rfl) B.range (a_cons (g_ l_int) a_nil)) (g_name (i := 7) sc_law.nd rfl (Or.inl rfl)) (b_one (s_app (i := 6) (lv 6) (l_cal C__law_changed (hr.mono (by omega)) hg (by rfl) (a_cons (gv 1) (a_cons (g_ (k_ix (K := K) (by rfl) (lv 6) (k_add (K := K) (by rfl) l_int (l_cal C__law_draw (hr.mono (by omega)) hg (by rfl) (a_cons (gv 1) (a_cons (g_ (l_sub (l_callB (kb_len (K := K) (by rfl)) (by rfl) B.len (by decide +kernel) (a_cons (gv 6) a_nil)) l_int)) a_nil)))))) a_nil))))))
  (b_one (s_frz 6 (s_for PassesOwn.never rfl (k_var (K := K) 6 (by rfl) (lv 6)) (g_name (i := 8) sc_law.nd rfl (Or.inl rfl)) (b_cons (s_par (i := 9) (j := 10) rfl sc_law.nd rfl rfl (by decide) rfl rfl (l_callB (kb_repr (K := K) (by rfl) hg (Room.u200 hr)) (by rfl) B.repr (by decide +kernel) (a_cons (gv 8) a_nil)) (l_cmp (k_eq (K := K) (by rfl) hr.units) (l_cal C__law_cuts (hr.mono (by omega)) hg (by rfl) (a_cons (gv 8) a_nil)) (l_lst a_nil) (nomark _)))
  (b_one (s_if (lw_or (lt_cmp (k_ne (K := K) (by rfl) hr.units) (l_callB (kb_repr (K := K) (by rfl) hg (Room.u200 hr)) (by rfl) B.repr (by decide +kernel) (a_cons (g_ (l_lst (a_cons (g_ (l_cal C_is_plain (hr.mono (by omega)) hg (by rfl) (a_cons (gv 8) a_nil))) (a_cons (g_ (l_cal C_is_plain (hr.mono (by omega)) hg (by rfl) (a_cons (gv 8) a_nil))) a_nil)))) a_nil)) (l_callB (kb_repr (K := K) (by rfl) hg (Room.u200 hr)) (by rfl) B.repr (by decide +kernel) (a_cons (g_ (l_lst (a_cons (gv 10) (a_cons (gv 10) a_nil)))) a_nil)) (nomark _)) (lw_or1 (lt_cmp (k_ne (K := K) (by rfl) hr.units) (l_callB (kb_repr (K := K) (by rfl) hg (Room.u200 hr)) (by rfl) B.repr (by decide +kernel) (a_cons (gv 8) a_nil)) (lv 9) (nomark _)))).t (b_one (s_ret l_bl)) b_nil)))))))))))
  (b_one (s_ret l_bl))), fun g n hn => ?_⟩
  refine ⟨6, rfl, by decide, by decide, fun i ss n' => ∃ s2 s3 s4 s5 s6 s7 s8 s9 s10, noOwn [s2, s3, s4, s5, s6, s7, s8, s9, s10] = true ∧ ss = [.un, .dk, s2, s3, s4, s5, s6, s7, s8, s9, s10] ∧ n' ≤ 5000 * i,
    ⟨_, _, _, _, _, _, _, _, _, rfl, rfl, by omega⟩, fun i d ss' n' hd ⟨s2, s3, s4, s5, s6, s7, s8, s9, s10, ho, e1, e2⟩ => ?_, fun ss' n' hI => rfl⟩
  subst e1
  have hi : i < 6 := by
    have z := (List.getElem?_eq_some_iff.mp hd).1
    simpa [rangeD] using z
  have ho3 : noOwn [s3, s4, s5, s6, s7, s8, s9, s10] = true := noOwn_drop ho 1
  have ho5 : noOwn [s5, s6, s7, s8, s9, s10] = true := noOwn_drop ho 3
  have ho6 : noOwn [s6, s7, s8, s9, s10] = true := noOwn_drop ho 4
  have ho7 : noOwn [s7, s8, s9, s10] = true := noOwn_drop ho 5
  obtain ⟨o7, o8, o9, o10⟩ : isOwn s7 = false ∧ isOwn s8 = false ∧ isOwn s9 = false ∧ isOwn s10 = false := by simpa [noOwn] using ho7
  simp only [dgName, List.set_cons_succ, List.set_cons_zero]
  refine seq_mid (fun ss n2 => ∃ (k : Nat) (ps : List Part), ss = [.un, .dk, .d d, .d (progD k ps), .d (rowD k (rowA ps)), s5, s6, s7, s8, s9, s10] ∧ k ≤ 3 ∧ PI k 60 (4000 * 60) (rowA ps) ∧ n2 ≤ n' + 1281) (fun N hN => ?_) (fun ss n2 ⟨k, ps, e1, hk3, hpi, b1⟩ => ?_)
  · simp (config := { maxSteps := 1000000 }) only [dIsi, Kd.of, dSetA, dAsgTA, dAppA, dExt, dgLst, dParLL, qSum2_l, qSum2_t, unS_d, unS_own, unS_dk, unS_un, qLe2_i, qLe2_s, qAll_l, dExt2, dPar3, dFind3, dRevS, diEnum, dSeq, dSet, dSetL, dRet, dRetO, dRetL, dIfS, dNext, dApp, dSetIx, dVar, dC, dOp, dFn, dFnL, dCons, dNil, dArg, dArgV, onD, datas, dTup, dLst, dLstL, dOfL, dAddL, dMulL, dIf, dTest, dTru, dNot, dAnd, dOr, dNotV, dAndV, dOrV, dSl, dPart, dNoPart, dCall, dMt, qAdd_i, qAdd_s, qAdd_t, qAdd_l, qSub_i, qDiv_i, qMod_i, qPow_i, qMul_i, qMul_s, qMul_t, qMul_l, qLt_i, qLe_i, qGt_i, qGe_i, qIx_l, qIx_t, qIx_s, qSl_l, qSl_t, qSl_s, qLen_l, qLen_t, qLen_s, qInt_i, qInt_b, qMin_i, qMax_i, qTup_l, qTup_t, qLst_l, qLst_t, qTru_n, qTru_b, qTru_i, qTru_s, qTru_l, qTru_t, qSum_l, qAny_l, qAny_t, qJoin_l, qCount_s, qEq_e, qNe_e, qRepr_e, dAsgT, dNeg, qNeg_i, dgTup, dgCons, dgName, dgNil, dPar, diR1, diOwn, diSeq, diL, diZip, diZipM, diVar, dParL, startS, toS, List.map_cons, List.map_nil, List.length_cons, List.length_nil, List.replicate, List.cons_append, List.nil_append, List.append_nil, List.getElem?_cons_zero, List.getElem?_cons_succ, List.set_cons_zero, List.set_cons_succ, Nat.reduceSub, Nat.reduceAdd, wipeS, canD, if_true, if_false, ite_true, ite_false, Bool.false_eq_true, PyData.bool.injEq, exists_eq_left', exists_eq_left, shp_i, shp_s, shp_b, shp_n, shp_e, shp_z, eqv_tt, eqv_lt, eqv_i, true_and, ix0, ix1, ix2, Option.some.injEq, PyData.tuple.injEq, PyData.list.injEq, PyData.int.injEq, PyData.str.injEq, S.own.injEq]
    refine use_draw (by decide) (by decide) (by omega) fun k hk => ?_
    have hk3 : k ≤ 3 := by omega
    refine ⟨k, 60, rfl, hk3, by omega, fun ps n2 hf hl hd3 h12 hsz b1 b2 => ?_⟩
    exact ⟨.inr ho3, _, rfl, rfl, rfl, hN _ _ ⟨k, ps, rfl, hk3, pi_of (rwA_fine ps hf hd3) hk3 (rowA_len ps) h12 hsz, by omega⟩⟩
  subst e1
  refine seq_mid (fun ss n3 => ∃ r' : Rw, ss = [.un, .dk, .d d, .d (progD k ps), .d (rowD k (rowA ps)), .d (rowD k r'), s6, s7, s8, s9, s10] ∧ PI k 60 (4000 * 60) r' ∧ n3 ≤ n' + 1281 + 1632) (fun N hN => ?_) (fun ss n3 ⟨r', e1, hpi2, b2⟩ => ?_)
  · exact ⟨k, 60, 4000 * 60, rowA ps, rfl, hpi, by decide, by decide, hk3, by omega, fun r' n3 g1 g2 g3 g4 => ⟨.inr ho5, hN _ _ ⟨r', rfl, g1, by omega⟩⟩⟩
  subst e1
  have NLrow : ∀ (r : Rw), NL (rowD k r) = true := fun r => by simp only [rowD, NL, NLA, NLA_tx, NLA_lps, Bool.and_self]
  refine seq_mid (fun ss n4 => ss = [.un, .dk, .d d, .d (progD k ps), .d (rowD k (rowA ps)), .d (rowD k r'), .own ([rowA ps, r'].map (rowD k)), s7, s8, s9, s10] ∧ n4 = n3) (fun N hN => ?_) (fun ss n4 ⟨e1, b3⟩ => ?_)
  · simp (config := { maxSteps := 1000000 }) only [dIsi, Kd.of, dSetA, dAsgTA, dAppA, dExt, dgLst, dParLL, qSum2_l, qSum2_t, unS_d, unS_own, unS_dk, unS_un, qLe2_i, qLe2_s, qAll_l, dExt2, dPar3, dFind3, dRevS, diEnum, dSeq, dSet, dSetL, dRet, dRetO, dRetL, dIfS, dNext, dApp, dSetIx, dVar, dC, dOp, dFn, dFnL, dCons, dNil, dArg, dArgV, onD, datas, dTup, dLst, dLstL, dOfL, dAddL, dMulL, dIf, dTest, dTru, dNot, dAnd, dOr, dNotV, dAndV, dOrV, dSl, dPart, dNoPart, dCall, dMt, qAdd_i, qAdd_s, qAdd_t, qAdd_l, qSub_i, qDiv_i, qMod_i, qPow_i, qMul_i, qMul_s, qMul_t, qMul_l, qLt_i, qLe_i, qGt_i, qGe_i, qIx_l, qIx_t, qIx_s, qSl_l, qSl_t, qSl_s, qLen_l, qLen_t, qLen_s, qInt_i, qInt_b, qMin_i, qMax_i, qTup_l, qTup_t, qLst_l, qLst_t, qTru_n, qTru_b, qTru_i, qTru_s, qTru_l, qTru_t, qSum_l, qAny_l, qAny_t, qJoin_l, qCount_s, qEq_e, qNe_e, qRepr_e, dAsgT, dNeg, qNeg_i, dgTup, dgCons, dgName, dgNil, dPar, diR1, diOwn, diSeq, diL, diZip, diZipM, diVar, dParL, startS, toS, List.map_cons, List.map_nil, List.length_cons, List.length_nil, List.replicate, List.cons_append, List.nil_append, List.append_nil, List.getElem?_cons_zero, List.getElem?_cons_succ, List.set_cons_zero, List.set_cons_succ, Nat.reduceSub, Nat.reduceAdd, wipeS, canD, if_true, if_false, ite_true, ite_false, Bool.false_eq_true, PyData.bool.injEq, exists_eq_left', exists_eq_left, shp_i, shp_s, shp_b, shp_n, shp_e, shp_z, eqv_tt, eqv_lt, eqv_i, true_and, ix0, ix1, ix2, Option.some.injEq, PyData.tuple.injEq, PyData.list.injEq, PyData.int.injEq, PyData.str.injEq, S.own.injEq]
    exact ⟨sz6 (by decide), by decide, by simp only [NLA, NLrow, Bool.and_self], hN _ _ ⟨rfl, rfl⟩⟩
  subst e1 b3
  refine seq_mid (fun ss n5 => ∃ (rs : List Rw) (s7 : S), isOwn s7 = false ∧ ss = [.un, .dk, .d d, .d (progD k ps), .d (rowD k (rowA ps)), .d (rowD k r'), .own (rs.map (rowD k)), s7, s8, s9, s10] ∧ (∀ r ∈ rs, CI k 64 240008 r) ∧ n5 ≤ n' + 1281 + 1632 + 24 ∧ rs.length = 6) (fun N hN => ?_) (fun ss n5 ⟨rs, s7', o7', e1, hrs, b3, hl⟩ => ?_)
  · refine ⟨4, rfl, by decide, by decide, fun j ss n5 => ∃ (rs : List Rw) (s7 : S), isOwn s7 = false ∧ ss = [.un, .dk, .d d, .d (progD k ps), .d (rowD k (rowA ps)), .d (rowD k r'), .own (rs.map (rowD k)), s7, s8, s9, s10] ∧ (∀ r ∈ rs, CI k (60 + j) (240000 + 2 * j) r) ∧ n5 ≤ n' + 1281 + 1632 + 6 * j ∧ rs.length = 2 + j,
      ⟨[rowA ps, r'], s7, o7, rfl, fun r hr => ?_, by omega, rfl⟩, fun j x ss n5 hx ⟨rs, s7, o7, e1, hrs, b3, hl⟩ => ?_, fun ss n5 ⟨rs, s7, o7, e1, hrs, b3, hl⟩ => ?_⟩
    · simp only [List.mem_cons, List.not_mem_nil, or_false] at hr
      rcases hr with rfl | rfl
      · exact hpi.ci
      · exact hpi2.ci
    · subst e1
      have hj : j < 4 := by
        have z := (List.getElem?_eq_some_iff.mp hx).1
        simpa [rangeD] using z
      simp (config := { maxSteps := 1000000 }) only [dIsi, Kd.of, dSetA, dAsgTA, dAppA, dExt, dgLst, dParLL, qSum2_l, qSum2_t, unS_d, unS_own, unS_dk, unS_un, qLe2_i, qLe2_s, qAll_l, dExt2, dPar3, dFind3, dRevS, diEnum, dSeq, dSet, dSetL, dRet, dRetO, dRetL, dIfS, dNext, dApp, dSetIx, dVar, dC, dOp, dFn, dFnL, dCons, dNil, dArg, dArgV, onD, datas, dTup, dLst, dLstL, dOfL, dAddL, dMulL, dIf, dTest, dTru, dNot, dAnd, dOr, dNotV, dAndV, dOrV, dSl, dPart, dNoPart, dCall, dMt, qAdd_i, qAdd_s, qAdd_t, qAdd_l, qSub_i, qDiv_i, qMod_i, qPow_i, qMul_i, qMul_s, qMul_t, qMul_l, qLt_i, qLe_i, qGt_i, qGe_i, qIx_l, qIx_t, qIx_s, qSl_l, qSl_t, qSl_s, qLen_l, qLen_t, qLen_s, qInt_i, qInt_b, qMin_i, qMax_i, qTup_l, qTup_t, qLst_l, qLst_t, qTru_n, qTru_b, qTru_i, qTru_s, qTru_l, qTru_t, qSum_l, qAny_l, qAny_t, qJoin_l, qCount_s, qEq_e, qNe_e, qRepr_e, dAsgT, dNeg, qNeg_i, dgTup, dgCons, dgName, dgNil, dPar, diR1, diOwn, diSeq, diL, diZip, diZipM, diVar, dParL, startS, toS, List.map_cons, List.map_nil, List.length_cons, List.length_nil, List.replicate, List.cons_append, List.nil_append, List.append_nil, List.getElem?_cons_zero, List.getElem?_cons_succ, List.set_cons_zero, List.set_cons_succ, Nat.reduceSub, Nat.reduceAdd, wipeS, canD, if_true, if_false, ite_true, ite_false, Bool.false_eq_true, PyData.bool.injEq, exists_eq_left', exists_eq_left, shp_i, shp_s, shp_b, shp_n, shp_e, shp_z, eqv_tt, eqv_lt, eqv_i, true_and, ix0, ix1, ix2, Option.some.injEq, PyData.tuple.injEq, PyData.list.injEq, PyData.int.injEq, PyData.str.injEq, S.own.injEq]
      have hlm : (List.map (rowD k) rs).length = 2 + j := by rw [List.length_map, hl]
      rw [show ((List.map (rowD k) rs).length : Int) - 1 = ((1 + j : Nat) : Int) by rw [hlm]; omega]
      refine use_draw (by omega) (by omega) (by omega) fun e he => ?_
      have hel : 1 + e < rs.length := by omega
      have hget : atI (List.map (rowD k) rs) ((1 : Int) + (e : Int)) = some (rowD k rs[1 + e]) := by
        rw [show (1 : Int) + (e : Int) = ((1 + e : Nat) : Int) by omega, atI_ofNat, List.getElem?_map, List.getElem?_eq_getElem hel]
        rfl
      have hci := hrs _ (List.getElem_mem hel)
      refine ⟨_, hget, k, 60 + j, 240000 + 2 * j, _, rfl, hci, by omega, Nat.le_trans (by omega : _ ≤ 250000) (by decide), hk3, by omega, fun r2 n6 g1 g2 g3 => ?_⟩
      refine ⟨sz6 (by rw [hlm]; omega), NLrow _, rs ++ [r2], .d x, rfl, by rw [List.map_append]; rfl, fun r hr => ?_, by omega, by rw [List.length_append, List.length_singleton]; omega⟩
      rcases List.mem_append.mp hr with hr | hr
      · exact (hrs r hr).mono (by omega) (by omega)
      · rw [List.mem_singleton.mp hr]
        exact g1.mono (by omega) (by omega)
    · subst e1
      have ej : (rangeD 0 (Int.toNat 4)).length = 4 := rfl
      rw [ej] at hrs b3 hl
      exact hN _ _ ⟨rs, s7, o7, rfl, hrs, by omega, hl⟩
  subst e1
  refine ⟨_, rfl, _, rfl, rfl, fun j ss n6 => ∃ s8 s9 s10 : S, noOwn [s8, s9, s10] = true ∧ ss = [.un, .dk, .d d, .d (progD k ps), .d (rowD k (rowA ps)), .d (rowD k r'), .d (.list (rs.map (rowD k))), s7', s8, s9, s10] ∧ n6 = n5, ⟨s8, s9, s10, by simp only [noOwn, List.any_cons, List.any_nil, o8, o9, o10]; rfl, rfl, rfl⟩, fun j x ss n6 hx ⟨s8, s9, s10, ho8, e1, e2⟩ => ?_, fun ss n6 ⟨s8, s9, s10, ho8, e1, e2⟩ => ?_⟩
  · subst e1 e2
    replace hx : (rs.map (rowD k))[j]? = some x := hx
    rw [List.getElem?_map] at hx
    obtain ⟨r, hr, rfl⟩ := Option.map_eq_some_iff.mp hx
    have hci := hrs r (List.mem_of_getElem? hr)
    have hrk := hci.rk (by decide)
    obtain ⟨n1, n2, n3, _, _⟩ := row_nice hci hk3 (by decide) (by decide)
    have hs1 : shows (rowD k r) := shows_big n1 (by omega) (by omega)
    have hb2 : ∀ b : Bool, shows (.list [.bool b, .bool b]) := fun b => shows_of (by simp [nice, niceA]) (by simp [PyData.depth, PyData.depthAll]) (by simp [wt, wtA])
    have hlw : ∀ j, (lw r j).length ≤ 64 := fun j => by
      unfold lw
      rw [List.getD_eq_getElem?_getD]
      cases hj : r.2[j]? with
      | none => exact Nat.zero_le _
      | some p => exact (hci.2.2.2 p (List.mem_of_getElem? hj)).2.2.1
    have hok : okD (.list (mvsD (cuts r))) = true := ok_list fun x hx => by
      obtain ⟨m, hm, rfl⟩ := List.mem_map.mp hx
      exact mv_nice hci.2.1 hlw (by decide) hm
    have et : PyData.eqv (.list (mvsD (cuts r))) (.list []) = plainB r := by
      rw [eqv_nil, plain_cuts hrk]
      cases cuts r <;> rfl
    have uc : ∀ (n : Nat) (Q : DQ), Q (.list (mvsD (cuts r))) n → F_cuts [.d (rowD k r)] n Q := fun n Q h => ⟨k, 64, r, rfl, hrk, by decide, h⟩
    have ui : ∀ (n : Nat) (Q : DQ), Q (.bool (plainB r)) n → F_ispl [.d (rowD k r)] n Q := fun n Q h => ⟨k, 64, r, rfl, hrk, by decide, h⟩
    generalize rowD k r = V1 at *
    generalize mvsD (cuts r) = V2 at *
    generalize plainB r = pb at *
    obtain ⟨u8, u9, u10⟩ : isOwn s8 = false ∧ isOwn s9 = false ∧ isOwn s10 = false := by simpa [noOwn] using ho8
    simp (config := { maxSteps := 1000000 }) only [dIsi, Kd.of, dSetA, dAsgTA, dAppA, dExt, dgLst, dParLL, qSum2_l, qSum2_t, unS_d, unS_own, unS_dk, unS_un, qLe2_i, qLe2_s, qAll_l, dExt2, dPar3, dFind3, dRevS, diEnum, dSeq, dSet, dSetL, dRet, dRetO, dRetL, dIfS, dNext, dApp, dSetIx, dVar, dC, dOp, dFn, dFnL, dCons, dNil, dArg, dArgV, onD, datas, dTup, dLst, dLstL, dOfL, dAddL, dMulL, dIf, dTest, dTru, dNot, dAnd, dOr, dNotV, dAndV, dOrV, dSl, dPart, dNoPart, dCall, dMt, qAdd_i, qAdd_s, qAdd_t, qAdd_l, qSub_i, qDiv_i, qMod_i, qPow_i, qMul_i, qMul_s, qMul_t, qMul_l, qLt_i, qLe_i, qGt_i, qGe_i, qIx_l, qIx_t, qIx_s, qSl_l, qSl_t, qSl_s, qLen_l, qLen_t, qLen_s, qInt_i, qInt_b, qMin_i, qMax_i, qTup_l, qTup_t, qLst_l, qLst_t, qTru_n, qTru_b, qTru_i, qTru_s, qTru_l, qTru_t, qSum_l, qAny_l, qAny_t, qJoin_l, qCount_s, qEq_e, qNe_e, qRepr_e, dAsgT, dNeg, qNeg_i, dgTup, dgCons, dgName, dgNil, dPar, diR1, diOwn, diSeq, diL, diZip, diZipM, diVar, dParL, startS, toS, List.map_cons, List.map_nil, List.length_cons, List.length_nil, List.replicate, List.cons_append, List.nil_append, List.append_nil, List.getElem?_cons_zero, List.getElem?_cons_succ, List.set_cons_zero, List.set_cons_succ, Nat.reduceSub, Nat.reduceAdd, wipeS, canD, if_true, if_false, ite_true, ite_false, Bool.false_eq_true, PyData.bool.injEq, exists_eq_left', exists_eq_left, shp_i, shp_s, shp_b, shp_n, shp_e, shp_z, eqv_tt, eqv_lt, eqv_i, true_and, ix0, ix1, ix2, Option.some.injEq, PyData.tuple.injEq, PyData.list.injEq, PyData.int.injEq, PyData.str.injEq, S.own.injEq]
    refine ⟨hs1, uc _ _ ⟨sz6 (by decide), hok, by decide, .inl rfl, .inl rfl, ?_⟩⟩
    rw [et]
    exact ui _ _ (ui _ _ ⟨sz6 (by decide), hb2 _, sz6 (by decide), hb2 _, no_ite (neq_s rfl) ⟨hs1, no_ite (neq_s rfl) ⟨.d V1, .d (.str V1.shown), .d (.bool pb), rfl, rfl, rfl⟩⟩⟩)
  · subst e1 e2
    exact ⟨.d d, .d (progD k ps), .d (rowD k (rowA ps)), .d (rowD k r'), .d (.list (rs.map (rowD k))), s7', s8, s9, s10, by
      obtain ⟨u8, u9, u10⟩ : isOwn s8 = false ∧ isOwn s9 = false ∧ isOwn s10 = false := by simpa [noOwn] using ho8
      simp only [noOwn, List.any_cons, List.any_nil, isOwn_d, o7', u8, u9, u10]
      rfl, rfl, by omega⟩
end
end Law

namespace Ev
open PySem PySem.Spec PyProof.Rows L2
/-! ### the end: the law's def called, nothing being printed around it -/
theorem law_callG {P : Program} {w : World} {K : PySem.W.Frag} {mg mb : Str → Option Value} {k : Nat} {fa a : Addr} {fd : FuncData} {x : Str} {sp : Sp} {t : Shared} {us : List Value} {zs : List Int}
    (kin0 : K.In t.heap) (glob0 : t.heap.Ns mainGlobals mg) (blt0 : t.heap.Ns builtinsNs mb) (boot : ∀ y : Str, y ≠ "__name__" → mb y = bootBuiltins y) (nl0 : t.heap.NoLimit) (nd0 : t.heap.NoDigits) (gens0 : t.gens = #[])
    (at0 : t.heap.get? a = some { cls := .type "list", data := .seq us.toArray }) (hints : IntsAre us zs) (small : zs.length ≤ sizeLine) (room : Room k callerA) (quiet : callerA.guards = some [])
    (F : ∀ b : Heap, K.In b → b.Ns mainGlobals mg → b.NoDigits → FnG P w K mg b CX0 k fa fd [x] sp) (binds : ∀ (s : Shared) (u : Value), BindsTo s fd ⟨[u], []⟩ [(x, u)])
    (hsp : ∀ H : Hp, SqL K H a (zs.map V.int) → sp [.ref a] H (fun v _ => v = .bl true) fun _ _ _ => False) :
    codeAny (model P w) callerA (.call (.ref fa) ⟨[.ref a], []⟩) (fun r s' => r = .ok (.ret (.bool true)) ∧ OldK t.heap s'.heap ∧ s'.os = t.os ∧ AllBare s'.gens) t := by
  have vals := vals_ints hints
  have lens := hints.length
  generalize hob : ({ cls := .type "list", data := .seq us.toArray } : Obj) = ob at at0
  have run : ∀ H : Hp, (∀ b, b ≠ a → H b = none) → (∀ u, H a = some u → u = .frz ob (.lst (zs.map V.int)) ∧ K.lookup a = none) → SqL K H a (zs.map V.int) → HOk P w H t.heap →
      codeAny (model P w) callerA (.call (.ref fa) ⟨[.ref a], []⟩) (fun r s' => r = .ok (.ret (.bool true)) ∧ OldK t.heap s'.heap ∧ s'.os = t.os ∧ AllBare s'.gens) t := by
    intro H far only seq ok
    have dicts : ∀ {b : Addr} {o : Obj} {es : Array DictEntry} {n : Nat}, t.heap.get? b = some o → o.data = .dict es n → H b = none := fun {b o es n} e d => by
      by_cases hb : b = a
      · subst hb
        rw [at0] at e
        cases e
        rw [← hob] at d
        cases d
      · exact far b hb
    have up : ∀ {b : Addr} {m : Str → Option Value}, t.heap.Ns b m → (hidT t.heap H).Ns b m := fun {b m} n => by
      obtain ⟨o, es, ep, e, d, rest⟩ := n
      exact ⟨o, es, ep, hidT_get e (dicts e d), d, rest⟩
    have kin : K.In (hidT t.heap H) := fun b o e => hidT_get (kin0 b o e) (by
      by_cases hb : b = a
      · subst hb
        cases q : H b with
        | none => rfl
        | some u =>
          rw [(only u q).2] at e
          cases e
      · exact far b hb)
    have md : Mod K mg (hidT t.heap H) := by
      obtain ⟨mc, c1, c2⟩ := nl0
      exact ⟨kin, up glob0, ⟨mb, up blt0, boot⟩, mc, up c1, c2⟩
    have nd : (hidT t.heap H).NoDigits := by
      obtain ⟨mc, c1, c2⟩ := nd0
      exact ⟨mc, up c1, c2⟩
    have env : Env0 P w K mg (hidT t.heap H) callerA [] t H := ⟨rfl, md, fun b o e => of_hidT e, Nat.le_of_eq (hidT_size _ _), trivial, fun b hb => (List.not_mem_nil hb).elim, ok, .of_eq gens0⟩
    refine codeAny_mono ((F _ kin (up glob0) nd).run callerA [] t H ⟨[.ref a], []⟩ [.ref a] [.ref a] _ _ room quiet env (binds t (.ref a)) (.cons rfl .nil) (hsp H seq)) fun r s' h => ?_
    match r, h with
    | .error e, h => exact False.elim h
    | .ok .next, h => exact False.elim h
    | .ok .brk, h => exact False.elim h
    | .ok .cont, h => exact False.elim h
    | .ok (.ret u), ⟨v, H', q1, q2, q3, q4, q5, q6⟩ =>
      have q6 : v = .bl true := q6
      subst q6
      obtain rfl : u = Value.bool true := q5
      refine ⟨rfl, OldK.of_keep fun b o e => ?_, q1, q2⟩
      by_cases hb : b = a
      · subst hb
        cases q : H b with
        | none => exact q3.keep b o e q (fun z => (List.not_mem_nil z).elim) List.not_mem_nil
        | some u =>
          obtain ⟨rfl, _⟩ := only u q
          obtain ⟨z, _⟩ := q4 b _ (q3.frzs b ob _ q)
          rw [at0] at e
          cases e
          exact z
      · exact q3.keep b o e (far b hb) (fun z => (List.not_mem_nil z).elim) List.not_mem_nil
  cases hk : K.lookup a with
  | some o =>
    have e := kin0 a o hk
    rw [at0] at e
    cases e
    subst hob
    exact run (fun _ => none) (fun _ _ => rfl) (fun u z => by cases z) (.inr ⟨_, us.toArray, _, hk, rfl, rfl, rfl, by rw [List.size_toArray, lens]; exact small, by simpa using vals⟩) fun b u z => by cases z
  | none =>
    refine run (fun b => if b = a then some (.frz ob (.lst (zs.map V.int))) else none) (fun b hb => if_neg hb) (fun u z => ?_) (.inl (.inr ⟨ob, if_pos rfl⟩)) fun b u z => ?_
    · have z' := (if_pos rfl).symm.trans z
      cases z'
      exact ⟨rfl, hk⟩
    · by_cases hb : b = a
      · have z' := (if_pos hb).symm.trans z
        cases z'
        subst hb
        subst hob
        exact ⟨at0, by rw [List.length_map]; exact small, us, _, vals, at0⟩
      · have z' := (if_neg hb).symm.trans z
        cases z'
/-- a def of the text, found at the top -/
theorem txt_mk {K : PySem.W.Frag} {h : Heap} {mg : Str → Option Value} {x : Str} {st : Stmt} {ps : List Str} (X : K.In h) (G : h.Ns mainGlobals mg) {f : Addr} {oc : Value} {od an : Option Addr} {osl : Array (Option Value)} {kV doc pm cdv ct : Value}
    (a : PySem.W.nsIn K mainGlobals x = some (some (.ref f))) (l : K.lookup f = some ⟨oc, od, .func (PySem.W.fnOf x x (defArgs st) (defBody st) (defScope st) .none kV doc pm an cdv ct), osl⟩) (c : PySem.W.codeIn K cdv x = true) (k : PySem.W.keepIn K (.ref f) = true)
    (b : ∀ (kV doc pm : Value) (an : Option Addr) (cdv ct : Value) (us : List Value), us.length = ps.length → bindArgs (PySem.W.fnOf x x (defArgs st) (defBody st) (defScope st) .none kV doc pm an cdv ct) ⟨us, []⟩ = pure (ps.zip us)) : Txt K mg x st ps :=
  ⟨f, _, fun_mk l c k, PySem.W.mg_of X G a, (fun_mk l c k).binds b⟩
end Ev

namespace Law
open PySem PySem.Spec PyProof.Rows L2 Ev
theorem all_defs {l : PySem.W.OpenLaw} {w : World} {K : PySem.W.Frag} {h : Heap} {mg : Str → Option Value} {fa f1 f2 f3 f4 f5 f6 f7 f8 f9 f10 f11 f12 f13 f14 f15 f16 f17 f18 : Addr} (X : K.In h) (G : h.Ns mainGlobals mg) (hfa : mg "law" = some (.ref fa))
    {od1 an1 od2 an2 od3 an3 od4 an4 od5 an5 od6 an6 od7 an7 od8 an8 od9 an9 od10 an10 od11 an11 od12 an12 od13 an13 od14 an14 od15 an15 od16 an16 od17 an17 od18 an18 : Option Addr} {sl1 sl2 sl3 sl4 sl5 sl6 sl7 sl8 sl9 sl10 sl11 sl12 sl13 sl14 sl15 sl16 sl17 sl18 : Array (Option Value)} {oc1 kV1 dc1 pm1 cd1 ct1 oc2 kV2 dc2 pm2 cd2 ct2 oc3 kV3 dc3 pm3 cd3 ct3 oc4 kV4 dc4 pm4 cd4 ct4 oc5 kV5 dc5 pm5 cd5 ct5 oc6 kV6 dc6 pm6 cd6 ct6 oc7 kV7 dc7 pm7 cd7 ct7 oc8 kV8 dc8 pm8 cd8 ct8 oc9 kV9 dc9 pm9 cd9 ct9 oc10 kV10 dc10 pm10 cd10 ct10 oc11 kV11 dc11 pm11 cd11 ct11 oc12 kV12 dc12 pm12 cd12 ct12 oc13 kV13 dc13 pm13 cd13 ct13 oc14 kV14 dc14 pm14 cd14 ct14 oc15 kV15 dc15 pm15 cd15 ct15 oc16 kV16 dc16 pm16 cd16 ct16 oc17 kV17 dc17 pm17 cd17 ct17 oc18 kV18 dc18 pm18 cd18 ct18 : Value}
    (a1 : PySem.W.nsIn K mainGlobals "root_of" = some (some (.ref f1))) (l1 : K.lookup f1 = some ⟨oc1, od1, .func (PySem.W.fnOf "root_of" "root_of" (defArgs s_root_of) (defBody s_root_of) (defScope s_root_of) .none kV1 dc1 pm1 an1 cd1 ct1), sl1⟩) (c1 : PySem.W.codeIn K cd1 "root_of" = true) (k1 : PySem.W.keepIn K (.ref f1) = true)
    (a2 : PySem.W.nsIn K mainGlobals "is_plain" = some (some (.ref f2))) (l2 : K.lookup f2 = some ⟨oc2, od2, .func (PySem.W.fnOf "is_plain" "is_plain" (defArgs s_is_plain) (defBody s_is_plain) (defScope s_is_plain) .none kV2 dc2 pm2 an2 cd2 ct2), sl2⟩) (c2 : PySem.W.codeIn K cd2 "is_plain" = true) (k2 : PySem.W.keepIn K (.ref f2) = true)
    (a3 : PySem.W.nsIn K mainGlobals "_law_deck" = some (some (.ref f3))) (l3 : K.lookup f3 = some ⟨oc3, od3, .func (PySem.W.fnOf "_law_deck" "_law_deck" (defArgs s__law_deck) (defBody s__law_deck) (defScope s__law_deck) .none kV3 dc3 pm3 an3 cd3 ct3), sl3⟩) (c3 : PySem.W.codeIn K cd3 "_law_deck" = true) (k3 : PySem.W.keepIn K (.ref f3) = true)
    (a4 : PySem.W.nsIn K mainGlobals "_law_draw" = some (some (.ref f4))) (l4 : K.lookup f4 = some ⟨oc4, od4, .func (PySem.W.fnOf "_law_draw" "_law_draw" (defArgs s__law_draw) (defBody s__law_draw) (defScope s__law_draw) .none kV4 dc4 pm4 an4 cd4 ct4), sl4⟩) (c4 : PySem.W.codeIn K cd4 "_law_draw" = true) (k4 : PySem.W.keepIn K (.ref f4) = true)
    (a5 : PySem.W.nsIn K mainGlobals "_law_one" = some (some (.ref f5))) (l5 : K.lookup f5 = some ⟨oc5, od5, .func (PySem.W.fnOf "_law_one" "_law_one" (defArgs s__law_one) (defBody s__law_one) (defScope s__law_one) .none kV5 dc5 pm5 an5 cd5 ct5), sl5⟩) (c5 : PySem.W.codeIn K cd5 "_law_one" = true) (k5 : PySem.W.keepIn K (.ref f5) = true)
    (a6 : PySem.W.nsIn K mainGlobals "_law_word" = some (some (.ref f6))) (l6 : K.lookup f6 = some ⟨oc6, od6, .func (PySem.W.fnOf "_law_word" "_law_word" (defArgs s__law_word) (defBody s__law_word) (defScope s__law_word) .none kV6 dc6 pm6 an6 cd6 ct6), sl6⟩) (c6 : PySem.W.codeIn K cd6 "_law_word" = true) (k6 : PySem.W.keepIn K (.ref f6) = true)
    (a7 : PySem.W.nsIn K mainGlobals "_law_form" = some (some (.ref f7))) (l7 : K.lookup f7 = some ⟨oc7, od7, .func (PySem.W.fnOf "_law_form" "_law_form" (defArgs s__law_form) (defBody s__law_form) (defScope s__law_form) .none kV7 dc7 pm7 an7 cd7 ct7), sl7⟩) (c7 : PySem.W.codeIn K cd7 "_law_form" = true) (k7 : PySem.W.keepIn K (.ref f7) = true)
    (a8 : PySem.W.nsIn K mainGlobals "_law_parts" = some (some (.ref f8))) (l8 : K.lookup f8 = some ⟨oc8, od8, .func (PySem.W.fnOf "_law_parts" "_law_parts" (defArgs s__law_parts) (defBody s__law_parts) (defScope s__law_parts) .none kV8 dc8 pm8 an8 cd8 ct8), sl8⟩) (c8 : PySem.W.codeIn K cd8 "_law_parts" = true) (k8 : PySem.W.keepIn K (.ref f8) = true)
    (a9 : PySem.W.nsIn K mainGlobals "_law_row" = some (some (.ref f9))) (l9 : K.lookup f9 = some ⟨oc9, od9, .func (PySem.W.fnOf "_law_row" "_law_row" (defArgs s__law_row) (defBody s__law_row) (defScope s__law_row) .none kV9 dc9 pm9 an9 cd9 ct9), sl9⟩) (c9 : PySem.W.codeIn K cd9 "_law_row" = true) (k9 : PySem.W.keepIn K (.ref f9) = true)
    (a10 : PySem.W.nsIn K mainGlobals "_law_size" = some (some (.ref f10))) (l10 : K.lookup f10 = some ⟨oc10, od10, .func (PySem.W.fnOf "_law_size" "_law_size" (defArgs s__law_size) (defBody s__law_size) (defScope s__law_size) .none kV10 dc10 pm10 an10 cd10 ct10), sl10⟩) (c10 : PySem.W.codeIn K cd10 "_law_size" = true) (k10 : PySem.W.keepIn K (.ref f10) = true)
    (a11 : PySem.W.nsIn K mainGlobals "_law_program" = some (some (.ref f11))) (l11 : K.lookup f11 = some ⟨oc11, od11, .func (PySem.W.fnOf "_law_program" "_law_program" (defArgs s__law_program) (defBody s__law_program) (defScope s__law_program) .none kV11 dc11 pm11 an11 cd11 ct11), sl11⟩) (c11 : PySem.W.codeIn K cd11 "_law_program" = true) (k11 : PySem.W.keepIn K (.ref f11) = true)
    (a12 : PySem.W.nsIn K mainGlobals "_law_put" = some (some (.ref f12))) (l12 : K.lookup f12 = some ⟨oc12, od12, .func (PySem.W.fnOf "_law_put" "_law_put" (defArgs s__law_put) (defBody s__law_put) (defScope s__law_put) .none kV12 dc12 pm12 an12 cd12 ct12), sl12⟩) (c12 : PySem.W.codeIn K cd12 "_law_put" = true) (k12 : PySem.W.keepIn K (.ref f12) = true)
    (a13 : PySem.W.nsIn K mainGlobals "_law_turn_by" = some (some (.ref f13))) (l13 : K.lookup f13 = some ⟨oc13, od13, .func (PySem.W.fnOf "_law_turn_by" "_law_turn_by" (defArgs s__law_turn_by) (defBody s__law_turn_by) (defScope s__law_turn_by) .none kV13 dc13 pm13 an13 cd13 ct13), sl13⟩) (c13 : PySem.W.codeIn K cd13 "_law_turn_by" = true) (k13 : PySem.W.keepIn K (.ref f13) = true)
    (a14 : PySem.W.nsIn K mainGlobals "_law_turn" = some (some (.ref f14))) (l14 : K.lookup f14 = some ⟨oc14, od14, .func (PySem.W.fnOf "_law_turn" "_law_turn" (defArgs s__law_turn) (defBody s__law_turn) (defScope s__law_turn) .none kV14 dc14 pm14 an14 cd14 ct14), sl14⟩) (c14 : PySem.W.codeIn K cd14 "_law_turn" = true) (k14 : PySem.W.keepIn K (.ref f14) = true)
    (a15 : PySem.W.nsIn K mainGlobals "_law_cuts" = some (some (.ref f15))) (l15 : K.lookup f15 = some ⟨oc15, od15, .func (PySem.W.fnOf "_law_cuts" "_law_cuts" (defArgs s__law_cuts) (defBody s__law_cuts) (defScope s__law_cuts) .none kV15 dc15 pm15 an15 cd15 ct15), sl15⟩) (c15 : PySem.W.codeIn K cd15 "_law_cuts" = true) (k15 : PySem.W.keepIn K (.ref f15) = true)
    (a16 : PySem.W.nsIn K mainGlobals "_law_plain" = some (some (.ref f16))) (l16 : K.lookup f16 = some ⟨oc16, od16, .func (PySem.W.fnOf "_law_plain" "_law_plain" (defArgs s__law_plain) (defBody s__law_plain) (defScope s__law_plain) .none kV16 dc16 pm16 an16 cd16 ct16), sl16⟩) (c16 : PySem.W.codeIn K cd16 "_law_plain" = true) (k16 : PySem.W.keepIn K (.ref f16) = true)
    (a17 : PySem.W.nsIn K mainGlobals "_law_changed" = some (some (.ref f17))) (l17 : K.lookup f17 = some ⟨oc17, od17, .func (PySem.W.fnOf "_law_changed" "_law_changed" (defArgs s__law_changed) (defBody s__law_changed) (defScope s__law_changed) .none kV17 dc17 pm17 an17 cd17 ct17), sl17⟩) (c17 : PySem.W.codeIn K cd17 "_law_changed" = true) (k17 : PySem.W.keepIn K (.ref f17) = true)
    (a18 : PySem.W.nsIn K mainGlobals "law" = some (some (.ref f18))) (l18 : K.lookup f18 = some ⟨oc18, od18, .func (PySem.W.fnOf "law" "law" (defArgs s_law) (defBody s_law) (defScope s_law) .none kV18 dc18 pm18 an18 cd18 ct18), sl18⟩) (c18 : PySem.W.codeIn K cd18 "law" = true) (k18 : PySem.W.keepIn K (.ref f18) = true)
    (z0 : PySem.W.nsIn K mainGlobals "len" = some none) (z1 : PySem.W.nsIn K mainGlobals "int" = some none) (z2 : PySem.W.nsIn K mainGlobals "abs" = some none) (z3 : PySem.W.nsIn K mainGlobals "sum" = some none) (z4 : PySem.W.nsIn K mainGlobals "any" = some none) (z5 : PySem.W.nsIn K mainGlobals "all" = some none) (z6 : PySem.W.nsIn K mainGlobals "min" = some none) (z7 : PySem.W.nsIn K mainGlobals "max" = some none) (z8 : PySem.W.nsIn K mainGlobals "repr" = some none) (z9 : PySem.W.nsIn K mainGlobals "range" = some none) (z10 : PySem.W.nsIn K mainGlobals "zip" = some none) (z11 : PySem.W.nsIn K mainGlobals "tuple" = some none) (z12 : PySem.W.nsIn K mainGlobals "list" = some none) (z13 : PySem.W.nsIn K mainGlobals "isinstance" = some none) (z14 : PySem.W.nsIn K mainGlobals "enumerate" = some none) (z15 : PySem.W.nsIn K mainGlobals "str" = some none) (z16 : PySem.W.nsIn K mainGlobals "bool" = some none) (z17 : PySem.W.nsIn K mainGlobals "ValueError" = some none) :
    ∃ fd : FuncData, (∀ (s : Shared) (v : Value), BindsTo s fd ⟨[v], []⟩ [("_law_script", v)]) ∧ ∀ base : Heap, K.In base → base.Ns mainGlobals mg → base.NoDigits → FnG l.prog w K mg base CX0 20 fa fd ["_law_script"] (spLaw K) := by
  have e := hfa.symm.trans (PySem.W.mg_of X G a18)
  cases e
  have B : Blt mg := ⟨PySem.W.mg_none_of X G z0, PySem.W.mg_none_of X G z1, PySem.W.mg_none_of X G z2, PySem.W.mg_none_of X G z3, PySem.W.mg_none_of X G z4, PySem.W.mg_none_of X G z5, PySem.W.mg_none_of X G z6, PySem.W.mg_none_of X G z7, PySem.W.mg_none_of X G z8, PySem.W.mg_none_of X G z9, PySem.W.mg_none_of X G z10, PySem.W.mg_none_of X G z11, PySem.W.mg_none_of X G z12, PySem.W.mg_none_of X G z13, PySem.W.mg_none_of X G z14, PySem.W.mg_none_of X G z15, PySem.W.mg_none_of X G z16, PySem.W.mg_none_of X G z17⟩
  have T : Tops K mg := ⟨
    txt_mk X G a1 l1 c1 k1 fun _ _ _ _ _ _ us hl => match us, hl with | [_], _ => rfl,
    txt_mk X G a2 l2 c2 k2 fun _ _ _ _ _ _ us hl => match us, hl with | [_], _ => rfl,
    txt_mk X G a3 l3 c3 k3 fun _ _ _ _ _ _ us hl => match us, hl with | [_], _ => rfl,
    txt_mk X G a4 l4 c4 k4 fun _ _ _ _ _ _ us hl => match us, hl with | [_, _], _ => rfl,
    txt_mk X G a5 l5 c5 k5 fun _ _ _ _ _ _ us hl => match us, hl with | [_, _], _ => rfl,
    txt_mk X G a6 l6 c6 k6 fun _ _ _ _ _ _ us hl => match us, hl with | [_], _ => rfl,
    txt_mk X G a7 l7 c7 k7 fun _ _ _ _ _ _ us hl => match us, hl with | [_, _, _], _ => rfl,
    txt_mk X G a8 l8 c8 k8 fun _ _ _ _ _ _ us hl => match us, hl with | [_, _, _, _], _ => rfl,
    txt_mk X G a9 l9 c9 k9 fun _ _ _ _ _ _ us hl => match us, hl with | [_], _ => rfl,
    txt_mk X G a10 l10 c10 k10 fun _ _ _ _ _ _ us hl => match us, hl with | [_, _], _ => rfl,
    txt_mk X G a11 l11 c11 k11 fun _ _ _ _ _ _ us hl => match us, hl with | [_, _, _], _ => rfl,
    txt_mk X G a12 l12 c12 k12 fun _ _ _ _ _ _ us hl => match us, hl with | [_, _, _, _, _], _ => rfl,
    txt_mk X G a13 l13 c13 k13 fun _ _ _ _ _ _ us hl => match us, hl with | [_, _, _, _], _ => rfl,
    txt_mk X G a14 l14 c14 k14 fun _ _ _ _ _ _ us hl => match us, hl with | [_, _], _ => rfl,
    txt_mk X G a15 l15 c15 k15 fun _ _ _ _ _ _ us hl => match us, hl with | [_], _ => rfl,
    txt_mk X G a16 l16 c16 k16 fun _ _ _ _ _ _ us hl => match us, hl with | [_, _], _ => rfl,
    txt_mk X G a17 l17 c17 k17 fun _ _ _ _ _ _ us hl => match us, hl with | [_, _], _ => rfl⟩
  refine ⟨PySem.W.fnOf "law" "law" (defArgs s_law) (defBody s_law) (defScope s_law) .none kV18 dc18 pm18 an18 cd18 ct18, fun s v => .of_eq rfl, fun base _ _ nd => ?_⟩
  exact fin T B nd (fun_mk l18 c18 k18)
theorem walk {l : PySem.W.OpenLaw} {q : Program} {loose : List Str} {XP : (Str → Option Value) → Heap → Prop} {YP : World → Heap → Prop} {d : DefRec} {K : Params → PySem.W.Frag} (hn : l.most = some 63) (hdf : d.params.defaults = [])
    (hY : ∀ (w : World) (h : Heap), YP w h → (K w.params).In h)
    (F : ∀ (w : World) (mg : Str → Option Value) (fa : Addr) (h : Heap), (K w.params).In h → h.Ns mainGlobals mg → mg d.name = some (.ref fa) →
      ∃ fd : FuncData, (∀ (s : Shared) (u : Value), BindsTo s fd ⟨[u], []⟩ [("_law_script", u)]) ∧ ∀ base : Heap, (K w.params).In base → base.Ns mainGlobals mg → base.NoDigits → FnG l.prog w (K w.params) mg base CX0 20 fa fd ["_law_script"] (spLaw (K w.params))) :
    PySem.W.WalkO q loose XP YP l.row.toRowW d [] (fun f vs => PySem.call f vs) := by
  refine Att.attach_call hn hdf fun w s₀ s₁ mg mb fa o pm cd doc a vs ns G Y ho hd hcd hmg hobj hi hlen hg => ?_
  obtain ⟨fd, hb, hF⟩ := F w mg fa _ (hY w _ Y) G.T.g hmg
  exact law_callG (hY w _ Y) G.T.g G.T.b G.T.builtins G.T.nolimit G.T.nodigits hg hobj hi (Nat.le_trans hlen (by decide)) ⟨rfl, by decide, by decide⟩ rfl hF hb fun H hS => ⟨a, ns, rfl, hS, hlen, fun _ => rfl⟩
end Law
open PySem PySem.W PyProof.Rows
set_option maxHeartbeats 0 in
theorem PySem.Challenge.cw_everycount_k24_what_is_plain_holds : PySem.Challenge.rw_everycount_k24_what_is_plain.Holds := by
  w_on; o_law; k_head; (case hw => w_witness2)
  k_fill
  refine Law.walk (l := PySem.Challenge.rw_everycount_k24_what_is_plain) rfl rfl (fun w h Y => PySem.W.kIn_of Y) ?F
  case F =>
    intro w mg fa h KX G hmg
    refine' Law.all_defs KX G hmg ?a1 ?l1 ?c1 ?k1 ?a2 ?l2 ?c2 ?k2 ?a3 ?l3 ?c3 ?k3 ?a4 ?l4 ?c4 ?k4 ?a5 ?l5 ?c5 ?k5 ?a6 ?l6 ?c6 ?k6 ?a7 ?l7 ?c7 ?k7 ?a8 ?l8 ?c8 ?k8 ?a9 ?l9 ?c9 ?k9 ?a10 ?l10 ?c10 ?k10 ?a11 ?l11 ?c11 ?k11 ?a12 ?l12 ?c12 ?k12 ?a13 ?l13 ?c13 ?k13 ?a14 ?l14 ?c14 ?k14 ?a15 ?l15 ?c15 ?k15 ?a16 ?l16 ?c16 ?k16 ?a17 ?l17 ?c17 ?k17 ?a18 ?l18 ?c18 ?k18   ?z0 ?z1 ?z2 ?z3 ?z4 ?z5 ?z6 ?z7 ?z8 ?z9 ?z10 ?z11 ?z12 ?z13 ?z14 ?z15 ?z16 ?z17
    (case a1 => k_is); (case l1 => k_is); (case c1 => k_is); (case k1 => k_is)
    (case a2 => k_is); (case l2 => k_is); (case c2 => k_is); (case k2 => k_is)
    (case a3 => k_is); (case l3 => k_is); (case c3 => k_is); (case k3 => k_is)
    (case a4 => k_is); (case l4 => k_is); (case c4 => k_is); (case k4 => k_is)
    (case a5 => k_is); (case l5 => k_is); (case c5 => k_is); (case k5 => k_is)
    (case a6 => k_is); (case l6 => k_is); (case c6 => k_is); (case k6 => k_is)
    (case a7 => k_is); (case l7 => k_is); (case c7 => k_is); (case k7 => k_is)
    (case a8 => k_is); (case l8 => k_is); (case c8 => k_is); (case k8 => k_is)
    (case a9 => k_is); (case l9 => k_is); (case c9 => k_is); (case k9 => k_is)
    (case a10 => k_is); (case l10 => k_is); (case c10 => k_is); (case k10 => k_is)
    (case a11 => k_is); (case l11 => k_is); (case c11 => k_is); (case k11 => k_is)
    (case a12 => k_is); (case l12 => k_is); (case c12 => k_is); (case k12 => k_is)
    (case a13 => k_is); (case l13 => k_is); (case c13 => k_is); (case k13 => k_is)
    (case a14 => k_is); (case l14 => k_is); (case c14 => k_is); (case k14 => k_is)
    (case a15 => k_is); (case l15 => k_is); (case c15 => k_is); (case k15 => k_is)
    (case a16 => k_is); (case l16 => k_is); (case c16 => k_is); (case k16 => k_is)
    (case a17 => k_is); (case l17 => k_is); (case c17 => k_is); (case k17 => k_is)
    (case a18 => k_is); (case l18 => k_is); (case c18 => k_is); (case k18 => k_is)
    (case z0 => k_is)
    (case z1 => k_is)
    (case z2 => k_is)
    (case z3 => k_is)
    (case z4 => k_is)
    (case z5 => k_is)
    (case z6 => k_is)
    (case z7 => k_is)
    (case z8 => k_is)
    (case z9 => k_is)
    (case z10 => k_is)
    (case z11 => k_is)
    (case z12 => k_is)
    (case z13 => k_is)
    (case z14 => k_is)
    (case z15 => k_is)
    (case z16 => k_is)
    (case z17 => k_is)

