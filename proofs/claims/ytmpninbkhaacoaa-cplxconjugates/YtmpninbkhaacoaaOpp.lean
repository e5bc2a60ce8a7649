/-
  Plain facts on 64-bit floats and their sign bit: what a product and a sum of turned numbers are. No Go text in sight. No conditions.
-/
import Derived.Test.YtmpninbkhaacoaaWhole
namespace Go.Flo

/-- The sign bit turned. -/
def flip (x : Nat) : Nat := x ^^^ 9223372036854775808

theorem xor_top {r : Nat} (h : r < 2 ^ 63) : r ^^^ 9223372036854775808 = 9223372036854775808 + r := by
  have hm : (r ^^^ 9223372036854775808) % 2 ^ 63 = r := by
    rw [Nat.xor_mod_two_pow]
    simp [Nat.mod_eq_of_lt h]
  have hd : (r ^^^ 9223372036854775808) / 2 ^ 63 = 1 := by
    rw [Nat.xor_div_two_pow, Nat.div_eq_of_lt h]
    rfl
  omega

theorem word_flip (neg : Bool) {r : Nat} (h : r < Ieee.double.signWeight) : Ieee.double.word (!neg) r = flip (Ieee.double.word neg r) := by
  have e5 : Ieee.double.signWeight = 9223372036854775808 := by decide
  rw [e5] at h
  unfold Ieee.Format.word flip
  rw [e5]
  cases neg
  · simp only [Bool.not_false, if_true, Bool.false_eq_true, if_false]
    exact (xor_top h).symm
  · simp only [Bool.not_true, if_true, Bool.false_eq_true, if_false]
    rw [← xor_top h, Nat.xor_assoc, Nat.xor_self, Nat.xor_zero]

theorem cut_even_neg (a b : Bool) (n d : Nat) : Ieee.Toward.even.cut a n d = Ieee.Toward.even.cut b n d := rfl

theorem write_opp (d : Ieee.Datum) : Ieee.double.write d.opposite = flip (Ieee.double.write d) := by
  cases d with
  | number s m p =>
    simp only [Ieee.Datum.opposite, Ieee.Format.write, Ieee.Format.nearest]
    split
    · exact word_flip s (by decide)
    · rw [cut_even_neg (!s) s]
      exact word_flip s (Nat.lt_of_le_of_lt (Nat.min_le_right _ _) (by decide))
  | infinity s => exact word_flip s (by decide)
  | nan s f =>
    refine word_flip s ?_
    have hb : f % Ieee.double.binade < Ieee.double.binade := Nat.mod_lt _ (by decide)
    have := Ieee.double.infRung_add_binade
    omega

theorem read_flip' (x : Nat) : Ieee.double.read (flip x) = (Ieee.double.read x).opposite := read_flip x

theorem product_opp_left (a b : Ieee.Datum) : a.opposite.product b = (a.product b).map Ieee.Datum.opposite := by
  cases a <;> cases b <;> simp only [Ieee.Datum.opposite, Ieee.Datum.product, Option.map_some, Option.map_none, Bool.not_xor, Bool.xor_not]
  · rename_i s m i t
    by_cases h : m = 0 <;> simp [h, Ieee.Datum.opposite]
  · rename_i s t n j
    by_cases h : n = 0 <;> simp [h, Ieee.Datum.opposite]

theorem product_opp_right (a b : Ieee.Datum) : a.product b.opposite = (a.product b).map Ieee.Datum.opposite := by
  rw [datum_product_comm, product_opp_left, datum_product_comm]

theorem opp_opp (d : Ieee.Datum) : d.opposite.opposite = d := by
  cases d <;> simp [Ieee.Datum.opposite]

theorem map_write_opp (o : Option Ieee.Datum) : (o.map Ieee.Datum.opposite).map Ieee.double.write = (o.map Ieee.double.write).map flip := by
  cases o with
  | none => rfl
  | some d => simp [write_opp]

theorem mul_flip_left (x y : Nat) : Ieee.double.mul (flip x) y = (Ieee.double.mul x y).map flip := by
  unfold Ieee.Format.mul
  rw [read_flip', product_opp_left, map_write_opp]

theorem mul_flip_right (x y : Nat) : Ieee.double.mul x (flip y) = (Ieee.double.mul x y).map flip := by
  rw [mul_comm, mul_flip_left, mul_comm]

theorem flip_flip (x : Nat) : flip (flip x) = x := by
  unfold flip
  rw [Nat.xor_assoc, Nat.xor_self, Nat.xor_zero]

theorem mul_flip_both (x y : Nat) : Ieee.double.mul (flip x) (flip y) = Ieee.double.mul x y := by
  rw [mul_flip_left, mul_flip_right, Option.map_map]
  cases Ieee.double.mul x y with
  | none => rfl
  | some r => simp [flip_flip]

/-- Two words that '==' holds for one, or that are both no number. -/
def AL (x u : Nat) : Prop :=
  (Ieee.double.order x u = some .eq ∧ Ieee.double.order x x = some .eq ∧ Ieee.double.order u u = some .eq) ∨
  (Ieee.double.order x x = none ∧ Ieee.double.order u u = none ∧ Ieee.double.order x u = none)

theorem AL.refl (x : Nat) : AL x x := by
  cases h : (Ieee.double.read x).isNaN with
  | true => exact Or.inr ⟨order_self_nan h, order_self_nan h, order_self_nan h⟩
  | false => exact Or.inl ⟨order_self_num h, order_self_num h, order_self_num h⟩

theorem order_nan {x y : Nat} (h : (Ieee.double.read x).isNaN = true) : Ieee.double.order x y = none := by
  unfold Ieee.Format.order
  cases hd : Ieee.double.read x with
  | number s m p => rw [hd] at h; cases h
  | infinity s => rw [hd] at h; cases h
  | nan s f => cases Ieee.double.read y <;> rfl

theorem AL.nan {x u : Nat} (hx : (Ieee.double.read x).isNaN = true) (hu : (Ieee.double.read u).isNaN = true) : AL x u :=
  Or.inr ⟨order_nan hx, order_nan hu, order_nan hx⟩

theorem isInt_nought (b : Bool) : IsInt (Ieee.double.word b 0) 0 := ⟨b, read_zero b⟩

theorem AL.of_isInt {x u : Nat} {n : Int} (hx : IsInt x n) (hu : IsInt u n) : AL x u :=
  Or.inl ⟨isInt_eq hx hu, isInt_eq hx hx, isInt_eq hu hu⟩

theorem nan_flip {x : Nat} (h : (Ieee.double.read x).isNaN = true) : (Ieee.double.read (flip x)).isNaN = true := by
  rw [read_flip']
  cases hd : Ieee.double.read x with
  | number s m p => rw [hd] at h; cases h
  | infinity s => rw [hd] at h; cases h
  | nan s f => rfl

theorem nan_word : (Ieee.double.read nanWord).isNaN = true := by decide +kernel

/-- A sum of turned data: the turned sum, or a nought of whatever sign. -/
theorem sum_opp (a b : Ieee.Datum) : AL (flip (cl ((a.sum b).map Ieee.double.write))) (cl ((a.opposite.sum b.opposite).map Ieee.double.write)) := by
  have key : (a.sum b = none ∧ a.opposite.sum b.opposite = none) ∨ (∃ d, a.sum b = some d ∧ a.opposite.sum b.opposite = some d.opposite) ∨
      (∃ s t p, a.sum b = some (.number s 0 p) ∧ a.opposite.sum b.opposite = some (.number t 0 p)) := by
    cases a <;> cases b <;> simp only [Ieee.Datum.opposite, Ieee.Datum.sum]
    case number.number s m i t n j =>
      rw [signed_not, signed_not]
      generalize Ieee.signed s m (i - min i j).toNat = A
      generalize Ieee.signed t n (j - min i j).toNat = B
      by_cases h : A + B = 0
      · have h' : -A + -B = 0 := by omega
        refine Or.inr (Or.inr ⟨s && t, !s && !t, min i j, ?_, ?_⟩)
        · simp [h]
        · simp [h']
      · have h' : ¬ -A + -B = 0 := by omega
        refine Or.inr (Or.inl ⟨_, rfl, ?_⟩)
        rw [if_neg h, if_neg h']
        have e1 : (-A + -B).natAbs = (A + B).natAbs := by omega
        have e2 : decide (-A + -B < 0) = !decide (A + B < 0) := by
          by_cases hn : A + B < 0
          · rw [decide_eq_true hn, decide_eq_false (by omega : ¬ -A + -B < 0)]; rfl
          · rw [decide_eq_false hn, decide_eq_true (by omega : -A + -B < 0)]; rfl
        rw [e1, e2]
    case infinity.infinity s t =>
      by_cases h : s = t
      · subst h
        exact Or.inr (Or.inl ⟨.infinity s, by simp, by simp⟩)
      · refine Or.inl ⟨by simp [h], ?_⟩
        simp [h]
    all_goals first
      | exact Or.inr (Or.inl ⟨_, rfl, rfl⟩)
      | exact Or.inl ⟨trivial, trivial⟩
  rcases key with ⟨h1, h2⟩ | ⟨d, h1, h2⟩ | ⟨s, t, p, h1, h2⟩
  · rw [h1, h2]
    exact AL.nan (nan_flip nan_word) nan_word
  · rw [h1, h2]
    simp only [Option.map_some, cl, Option.getD_some]
    rw [write_opp]
    exact AL.refl _
  · rw [h1, h2]
    simp only [Option.map_some, cl, Option.getD_some, Ieee.Format.write, Ieee.Format.nearest, if_true]
    rw [← word_flip s (by decide)]
    exact AL.of_isInt (isInt_nought _) (isInt_nought _)

theorem add_flip (x y : Nat) : AL (flip (addP x y)) (addP (flip x) (flip y)) := by
  unfold addP Ieee.Format.add
  rw [read_flip', read_flip']
  exact sum_opp _ _

theorem mulRe_flip (p q r s : Nat) : mulRe p (flip q) r (flip s) = mulRe p q r s := by
  unfold mulRe
  rw [mul_flip_both]

theorem mulIm_flip (p q r s : Nat) : AL (flip (mulIm p q r s)) (mulIm p (flip q) r (flip s)) := by
  unfold mulIm
  rw [mul_flip_right, mul_flip_left]
  cases Ieee.double.mul p s with
  | none => exact AL.nan (nan_flip nan_word) nan_word
  | some u =>
    cases Ieee.double.mul q r with
    | none => exact AL.nan (nan_flip nan_word) nan_word
    | some v => exact add_flip u v

end Go.Flo
