/-
  Plain facts on 64-bit floats as the model reckons them: what a sum, a difference, a product is once a part that is no number has been made the one word; no Go text in sight. No conditions.
-/
import Derived.WalkKit
import Derived.WalkSpells
import Derived.WalkLawsBesides
import Derived.Test.YtigclopkoolocaaDoorDraw
namespace Go.Flo

/-- The one word that stands for 'not a number'. -/
def nanWord : Nat := 9221120237041090561

/-- A word that came about, made clean. -/
def clw (x : Nat) : Nat := if Ieee.double.order x x == some .eq then x else nanWord

/-- The word of an operation's answer, clean. -/
def cl (o : Option Nat) : Nat := o.getD nanWord

theorem order_self_nan {x : Nat} (h : (Ieee.double.read x).isNaN = true) : Ieee.double.order x x = none := by
  unfold Ieee.Format.order
  cases hd : Ieee.double.read x with
  | number s m p => rw [hd] at h; cases h
  | infinity s => rw [hd] at h; cases h
  | nan s f => rfl

theorem order_self_num {x : Nat} (h : (Ieee.double.read x).isNaN = false) : Ieee.double.order x x = some .eq := by
  unfold Ieee.Format.order
  cases hd : Ieee.double.read x with
  | number s m p => simp [Ieee.Datum.order, compare, compareOfLessAndEq]
  | infinity s => cases s <;> simp [Ieee.Datum.order, compare, compareOfLessAndEq]
  | nan s f => rw [hd] at h; cases h

theorem rung_of_word (neg : Bool) {r : Nat} (h : r < Ieee.double.signWeight) : Ieee.double.word neg r % Ieee.double.signWeight = r := by
  unfold Ieee.Format.word
  cases neg
  · simp [Nat.mod_eq_of_lt h]
  · simp [Nat.mod_eq_of_lt h]

theorem sign_of_word (neg : Bool) {r : Nat} (h : r < Ieee.double.signWeight) : (Ieee.double.word neg r / Ieee.double.signWeight % 2 == 1) = neg := by
  have hp : 0 < Ieee.double.signWeight := by decide
  unfold Ieee.Format.word
  cases neg
  · simp [Nat.div_eq_of_lt h]
  · simp only [if_true]
    rw [Nat.add_div_left _ hp, Nat.div_eq_of_lt h]
    rfl

/-- What is written of a sign and a rung not above infinity's reads as no NaN. -/
theorem read_word_le (neg : Bool) {r : Nat} (h : r ≤ Ieee.double.infRung) : (Ieee.double.read (Ieee.double.word neg r)).isNaN = false := by
  have hw : r < Ieee.double.signWeight := Nat.lt_of_le_of_lt h (by decide)
  unfold Ieee.Format.read
  simp only [rung_of_word neg hw, sign_of_word neg hw]
  split
  · rfl
  · split
    · rfl
    · split
      · rfl
      · omega

theorem write_notNaN (d : Ieee.Datum) (h : d.isNaN = false) : (Ieee.double.read (Ieee.double.write d)).isNaN = false := by
  cases d with
  | number s m p =>
    unfold Ieee.Format.write Ieee.Format.nearest
    dsimp only
    split
    · exact read_word_le _ (Nat.zero_le _)
    · exact read_word_le _ (Nat.min_le_right _ _)
  | infinity s => exact read_word_le _ (Nat.le_refl _)
  | nan s f => cases h

theorem sum_notNaN {a b d : Ieee.Datum} (h : a.sum b = some d) : d.isNaN = false := by
  unfold Ieee.Datum.sum at h
  split at h
  · cases h
  · cases h
  · split at h
    · cases h; rfl
    · cases h
  · cases h; rfl
  · cases h; rfl
  · cases h; rfl

theorem product_notNaN {a b d : Ieee.Datum} (h : a.product b = some d) : d.isNaN = false := by
  unfold Ieee.Datum.product at h
  split at h
  · cases h
  · cases h
  · cases h; rfl
  · split at h
    · cases h
    · cases h; rfl
  · split at h
    · cases h
    · cases h; rfl
  · cases h; rfl

theorem map_notNaN {o : Option Ieee.Datum} {r : Nat} (hd : ∀ d, o = some d → d.isNaN = false) (h : o.map Ieee.double.write = some r) : Ieee.double.order r r = some .eq := by
  cases o with
  | none => cases h
  | some d =>
    cases h
    exact order_self_num (write_notNaN d (hd d rfl))

/-- The three operations that the program uses. -/
inductive Ar where | add | sub | mul

def Ar.op : Ar → BinOp
  | .add => .add
  | .sub => .sub
  | .mul => .mul

def Ar.bits : Ar → Nat → Nat → Option Nat
  | .add => Ieee.double.add
  | .sub => Ieee.double.sub
  | .mul => Ieee.double.mul

theorem Ar.self (o : Ar) {x y r : Nat} (h : o.bits x y = some r) : Ieee.double.order r r = some .eq := by
  cases o
  · exact map_notNaN (fun _ => sum_notNaN) h
  · exact map_notNaN (fun _ => sum_notNaN) h
  · exact map_notNaN (fun _ => product_notNaN) h

/-- The word that an operation gives in a world: the answer, or what the tape says. -/
def fres (o : Ar) (x y : Nat) (w : World) : Nat :=
  match o.bits x y with
  | some r => r
  | none => Question.cut (.nanBits .f64 x y) (w.tape w.drawn (.nanBits .f64 x y))

/-- The world behind it. -/
def fltW (o : Ar) (x y : Nat) (w : World) : World :=
  match o.bits x y with
  | some _ => w
  | none => w.drew

theorem run_far {P : Program} (o : Ar) (t : TypeId) (x y : Nat) (w : World) :
    (binOp o.op t (.float .f64 x) (.float .f64 y)).run P w = .ok (.float .f64 (fres o x y w)) (fltW o x y w) := by
  unfold fres fltW
  cases h : o.bits x y with
  | some r =>
    cases o <;> simp only [Ar.bits] at h <;> simp [Ar.op, binOp, Op.floatArith, FloatKind.format, h]
  | none =>
    cases o <;> simp only [Ar.bits] at h <;> simp [Ar.op, binOp, Op.floatArith, FloatKind.format, h, Question.forced]

theorem cut_nan (x y t : Nat) : (Ieee.double.read (Question.cut (.nanBits .f64 x y) t)).isNaN = true := by
  have hb : t / 2 % (2 ^ 52 - 1) < 2 ^ 52 - 1 := Nat.mod_lt _ (by decide)
  have hs : t % 2 < 2 := Nat.mod_lt _ (by decide)
  simp only [Question.cut]
  generalize t / 2 % (2 ^ 52 - 1) = f at hb
  generalize t % 2 = s at hs
  have e : s * 2 ^ 63 + 0x7ff0000000000000 + 1 + f = Ieee.double.word (s == 1) (Ieee.double.infRung + (1 + f)) := by
    have h1 : Ieee.double.infRung = 0x7ff0000000000000 := by decide
    have h2 : Ieee.double.signWeight = 2 ^ 63 := by decide
    unfold Ieee.Format.word
    rw [h1, h2]
    rcases (by omega : s = 0 ∨ s = 1) with rfl | rfl
    · simp; omega
    · simp; omega
  rw [e]
  have hlt : Ieee.double.infRung + (1 + f) < Ieee.double.signWeight := by
    have h1 : Ieee.double.infRung = 0x7ff0000000000000 := by decide
    have h2 : Ieee.double.signWeight = 2 ^ 63 := by decide
    rw [h1, h2]; omega
  unfold Ieee.Format.read
  simp only [rung_of_word _ hlt]
  rw [if_neg (by have : Ieee.double.binade ≤ Ieee.double.infRung := by decide
                 omega), if_neg (by omega), if_neg (by omega)]
  rfl

theorem clw_fres (o : Ar) (x y : Nat) (w : World) : clw (fres o x y w) = cl (o.bits x y) := by
  unfold clw fres cl
  cases h : o.bits x y with
  | some r => simp [o.self h]
  | none => simp [order_self_nan (cut_nan x y _)]

theorem Dr.fltW (o : Ar) (x y : Nat) {w w' : World} (h : Dr w w') : Dr w (fltW o x y w') := by
  refine h.trans ?_
  unfold Flo.fltW
  split
  · exact Dr.refl _
  · exact ⟨1, rfl⟩
/-! Sums and products go both ways round. -/
theorem datum_sum_comm (a b : Ieee.Datum) : a.sum b = b.sum a := by
  cases a <;> cases b <;> simp only [Ieee.Datum.sum]
  · rename_i s m i t n j
    rw [Int.min_comm i j, Int.add_comm (Ieee.signed s m _), Bool.and_comm s t]
  · rename_i s t
    by_cases h : s = t
    · simp [h]
    · simp [h, Ne.symm h]

theorem datum_product_comm (a b : Ieee.Datum) : a.product b = b.product a := by
  cases a <;> cases b <;> simp only [Ieee.Datum.product]
  · rename_i s m i t n j
    rw [Bool.xor_comm s t, Nat.mul_comm, Int.add_comm]
  · rename_i s t
    rw [Bool.xor_comm]

theorem add_comm (x y : Nat) : Ieee.double.add x y = Ieee.double.add y x := by
  unfold Ieee.Format.add; rw [datum_sum_comm]
theorem mul_comm (x y : Nat) : Ieee.double.mul x y = Ieee.double.mul y x := by
  unfold Ieee.Format.mul; rw [datum_product_comm]

/-! An operation on what another operation gave. -/
theorem read_nan_add {x y : Nat} (o : Ar) (h : (Ieee.double.read x).isNaN = true ∨ (Ieee.double.read y).isNaN = true) : o.bits x y = none := by
  cases o <;> simp only [Ar.bits, Ieee.Format.add, Ieee.Format.sub, Ieee.Format.mul, Option.map_eq_none_iff]
  all_goals
    cases hx : Ieee.double.read x <;> cases hy : Ieee.double.read y <;> simp_all [Ieee.Datum.sum, Ieee.Datum.product, Ieee.Datum.isNaN, Ieee.Datum.opposite]

def ar2 (o : Ar) (u v : Option Nat) : Option Nat := u.bind fun u => v.bind fun v => o.bits u v

theorem clw_fres2 (o o1 o2 : Ar) (x1 y1 x2 y2 : Nat) (w1 w2 w3 : World) :
    clw (fres o (fres o1 x1 y1 w1) (fres o2 x2 y2 w2) w3) = cl (ar2 o (o1.bits x1 y1) (o2.bits x2 y2)) := by
  rw [clw_fres]
  congr 1
  unfold ar2
  cases h1 : o1.bits x1 y1 with
  | none =>
    refine read_nan_add o (Or.inl ?_)
    unfold fres
    rw [h1]
    exact cut_nan _ _ _
  | some r1 =>
    cases h2 : o2.bits x2 y2 with
    | none =>
      refine read_nan_add o (Or.inr ?_)
      unfold fres
      rw [h2]
      exact cut_nan _ _ _
    | some r2 =>
      unfold fres
      rw [h1, h2]
      rfl

/-- The parts of a product, clean. -/
def mulRe (p q r s : Nat) : Nat := cl (ar2 .sub (Ieee.double.mul p r) (Ieee.double.mul q s))
def mulIm (p q r s : Nat) : Nat := cl (ar2 .add (Ieee.double.mul p s) (Ieee.double.mul q r))
/-- A part of a sum, clean. -/
def addP (x y : Nat) : Nat := cl (Ieee.double.add x y)

theorem addP_eq (x y : Nat) (w : World) : clw (fres .add x y w) = addP x y := clw_fres .add x y w
theorem mulRe_eq (p q r s : Nat) (w1 w2 w3 : World) : clw (fres .sub (fres .mul p r w1) (fres .mul q s w2) w3) = mulRe p q r s := clw_fres2 ..
theorem mulIm_eq (p q r s : Nat) (w1 w2 w3 : World) : clw (fres .add (fres .mul p s w1) (fres .mul q r w2) w3) = mulIm p q r s := clw_fres2 ..

theorem ar2_add_comm (u v : Option Nat) : ar2 .add u v = ar2 .add v u := by
  cases u <;> cases v <;> simp [ar2, Ar.bits, add_comm]

theorem addP_comm (x y : Nat) : addP x y = addP y x := by unfold addP; rw [add_comm]
theorem mulRe_comm (p q r s : Nat) : mulRe p q r s = mulRe r s p q := by unfold mulRe; rw [mul_comm p r, mul_comm q s]
theorem mulIm_comm (p q r s : Nat) : mulIm p q r s = mulIm r s p q := by
  unfold mulIm; rw [ar2_add_comm, mul_comm p s, mul_comm q r]

theorem cl_lt (o : Option Nat) (h : ∀ r, o = some r → r < 2 ^ 64) : cl o < 2 ^ 64 := by
  cases o with
  | none => decide
  | some r => exact h r rfl

theorem bits_lt (o : Ar) {x y r : Nat} (h : o.bits x y = some r) : r < 2 ^ 64 := by
  cases o
  · exact Ieee.double.add_lt h
  · exact Ieee.double.sub_lt h
  · exact Ieee.double.mul_lt h

theorem addP_lt (x y : Nat) : addP x y < 2 ^ 64 := cl_lt _ fun _ h => bits_lt .add h
theorem ar2_lt (o : Ar) {u v : Option Nat} {r : Nat} (h : ar2 o u v = some r) : r < 2 ^ 64 := by
  cases u <;> cases v <;> simp [ar2] at h
  exact bits_lt o h
theorem mulRe_lt (p q r s : Nat) : mulRe p q r s < 2 ^ 64 := cl_lt _ fun _ h => ar2_lt _ h
theorem mulIm_lt (p q r s : Nat) : mulIm p q r s < 2 ^ 64 := cl_lt _ fun _ h => ar2_lt _ h

/-! Powers, by squares from the highest bit on. -/
def mulC (x y : Nat × Nat) : Nat × Nat := (mulRe x.1 x.2 y.1 y.2, mulIm x.1 x.2 y.1 y.2)

def runP (a : Nat × Nat) (n : Nat) : Nat → Nat × Nat → Nat × Nat
  | 0, c => c
  | k + 1, c => runP a n k (if n / 2 ^ k % 2 = 1 then mulC (mulC c c) a else mulC c c)

def powC (a : Nat × Nat) (n : Nat) : Nat × Nat := runP a n (Nat.log2 n) a

end Go.Flo
