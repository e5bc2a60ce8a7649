/-
  What cplx.Parse returns, for every text; and that a text that was told is read as it was. No conditions but that a word is one of 64 bits.
-/
import Derived.Test.YtigclopkoolocaaDoorText
import Derived.Lib.Strings
namespace Go.Proofs.YtigclopkoolocaaDoor
open Go.RowKit Go.Flo

/-- The value of a digit's byte. -/
def dv (c : Nat) : Option Nat := if 48 ≤ c ∧ c ≤ 57 then some (c - 48) else if 97 ≤ c ∧ c ≤ 102 then some (c - 87) else none

/-- Digits read on from w. -/
def pW : List Nat → Nat → Option Nat
  | [], w => some w
  | c :: cs, w => match dv c with
    | none => none
    | some d => pW cs (w * 16 % 18446744073709551616 + d)

/-- A string's bytes as numbers. -/
def nums (s : ByteArray) : List Nat := s.data.toList.map (·.toNat)

theorem ret_two {a b c d : Value} (h : a = c) (k : b = d) : Ending.returned (.tuple #[a, b]) = .returned (.tuple #[c, d]) := by rw [h, k]

theorem dv_lt {c d : Nat} (h : dv c = some d) : d < 16 := by
  unfold dv at h
  split at h
  · cases h; omega
  · split at h
    · cases h; omega
    · cases h

theorem or_step (u d : Nat) (hd : d < 16) : bits BinOp.or IntKind.u64 (IntKind.u64.wrap ((u : Int) * 16)) (d : Int) = ((u * 16 % 18446744073709551616 + d : Nat) : Int) := by
  have e : IntKind.u64.wrap ((u : Int) * 16) = ((u * 16 % 18446744073709551616 : Nat) : Int) := by
    rw [IntKind.wrap_u64]
    omega
  rw [e, u64_or_nat _ _ (Nat.mod_lt _ (by decide)) (by omega), nat_join 4 _ _ (by omega) (by omega)]

theorem nums_drop (s : ByteArray) (k : Nat) (h : k < s.size) : (nums s).drop k = s[k].toNat :: (nums s).drop (k + 1) := by
  have hl : k < (nums s).length := by simpa [nums] using h
  rw [List.drop_eq_getElem_cons hl]
  congr 1
  simp [nums]
  rfl

theorem nums_end (s : ByteArray) (k : Nat) (h : ¬ k < s.size) : (nums s).drop k = [] := by
  apply List.drop_eq_nil_of_le
  simp only [nums, List.length_map, Array.length_toList]
  exact Nat.le_of_not_lt h

def PWRel (s : ByteArray) (R : Option Nat) (v i : Value) : Prop :=
  ∃ (k u : Nat), k ≤ s.size ∧ u < 18446744073709551616 ∧ v = .int .u64 u ∧ i = .int .i64 k ∧ pW ((nums s).drop k) u = R

/-- What a text stands for. -/
def pC (l : List Nat) : Option (Nat × Nat) :=
  if l.length = 33 ∧ l[16]? = some 44 then
    (pW (l.take 16) 0).bind fun a => (pW (l.drop 17) 0).bind fun b => some (a, b)
  else none

theorem nums_extract (s : ByteArray) (a b : Nat) : nums (s.extract a b) = ((nums s).drop a).take (b - a) := by
  unfold nums
  rw [Lib.extract_data, List.map_take, List.map_drop]

theorem extract_size_le (s : ByteArray) (a b : Nat) (h : s.size = 33) : (s.extract a b).size ≤ 9223372036854775807 := by
  rw [ByteArray.size_extract]
  omega

theorem nums_16 (s : ByteArray) (h : s.size = 33) : (nums s)[16]? = some (s[16]'(by omega)).toNat := by
  have e := nums_drop s 16 (by omega)
  have : (nums s)[16]? = ((nums s).drop 16)[0]? := by simp
  rw [this, e]
  rfl

theorem nums_length (s : ByteArray) : (nums s).length = s.size := by simp [nums]

/-! What was told is read as it was. -/
theorem hexDigit_lt {d : Nat} (h : d < 16) : hexDigit d < 256 := by unfold hexDigit; split <;> omega

theorem dv_hex {d : Nat} (h : d < 16) : dv (hexDigit d) = some d := by
  unfold hexDigit dv
  split
  · rw [if_pos (by omega)]
    congr 1
    omega
  · rw [if_neg (by omega), if_pos (by omega)]
    congr 1
    omega

theorem hexN_lt (x j : Nat) : ∀ c ∈ hexN x j, c < 256 := by
  intro c hc
  simp only [hexN, List.mem_map] at hc
  obtain ⟨i, _, rfl⟩ := hc
  exact hexDigit_lt (dig_lt _ _)

theorem textL_lt (a b : Nat) : ∀ c ∈ textL a b, c < 256 := by
  intro c hc
  simp only [textL, List.mem_append, List.mem_singleton] at hc
  rcases hc with (h | h) | h
  · exact hexN_lt a 16 c h
  · omega
  · exact hexN_lt b 16 c h

theorem nums_text (a b : Nat) : nums (textB a b) = textL a b := by
  unfold nums textB
  rw [strOfNums_data, List.map_map, List.map_map]
  have : ∀ c ∈ textL a b, (((fun x : UInt8 => x.toNat) ∘ fun n : Int => UInt8.ofNat n.toNat) ∘ fun (d : Nat) => (d : Int)) c = c := by
    intro c hc
    have := textL_lt a b c hc
    simp only [Function.comp_apply, Int.toNat_natCast, UInt8.toNat_ofNat']
    omega
  rw [List.map_congr_left this, List.map_id']

theorem pW_append (l m : List Nat) : ∀ w, pW (l ++ m) w = (pW l w).bind (pW m) := by
  induction l with
  | nil => intro w; rfl
  | cons c cs ih =>
    intro w
    simp only [List.cons_append, pW]
    cases dv c with
    | none => rfl
    | some d => exact ih _

theorem pW_hexN (x : Nat) (hx : x < 2 ^ 64) : ∀ j, j ≤ 16 → pW (hexN x j) 0 = some (x / 2 ^ (64 - 4 * j)) := by
  intro j
  induction j with
  | zero =>
    intro _
    simp only [hexN, List.range_zero, List.map_nil, pW]
    rw [Nat.div_eq_of_lt (by simpa using hx)]
  | succ j ih =>
    intro hj
    rw [hexN_succ, pW_append, ih (by omega)]
    simp only [Option.bind_some, pW, dv_hex (dig_lt _ _)]
    congr 1
    have e : 64 - 4 * (j + 1) = 60 - 4 * j := by omega
    have e2 : 64 - 4 * j = (60 - 4 * j) + 4 := by omega
    rw [e, e2, Nat.pow_add, ← Nat.div_div_eq_div_mul]
    unfold dig
    have hq : x / 2 ^ (60 - 4 * j) ≤ x := Nat.div_le_self _ _
    generalize x / 2 ^ (60 - 4 * j) = q at hq
    omega

theorem pC_text (a b : Nat) (ha : a < 18446744073709551616) (hb : b < 18446744073709551616) : pC (textL a b) = some (a, b) := by
  unfold pC
  have h16 : (textL a b)[16]? = some 44 := by
    unfold textL
    rw [List.append_assoc, List.getElem?_append_right (by simp [hexN_length]), hexN_length]
    rfl
  rw [if_pos ⟨textL_length a b, h16⟩]
  have t1 : (textL a b).take 16 = hexN a 16 := by
    unfold textL
    rw [List.append_assoc, List.take_append_of_le_length (by simp [hexN_length]), List.take_of_length_le (by simp [hexN_length])]
  have t2 : (textL a b).drop 17 = hexN b 16 := by
    unfold textL
    rw [List.drop_append_of_le_length (by simp [hexN_length]), List.drop_eq_nil_of_le (by simp [hexN_length])]
    rfl
  rw [t1, t2, pW_hexN a ha 16 (by omega), pW_hexN b hb 16 (by omega)]
  simp

theorem textB_inj {a b c d : Nat} (ha : a < 18446744073709551616) (hb : b < 18446744073709551616) (hc : c < 18446744073709551616) (hd : d < 18446744073709551616) (h : textB a b = textB c d) : a = c ∧ b = d := by
  have e : textL a b = textL c d := by rw [← nums_text, ← nums_text, h]
  have k := pC_text a b ha hb
  rw [e, pC_text c d hc hd] at k
  simp only [Option.some.injEq, Prod.mk.injEq] at k
  exact ⟨k.1.symm, k.2.symm⟩

theorem textB_size (a b : Nat) : (textB a b).size = 33 := by
  unfold textB
  rw [strOfNums_size, List.length_map, textL_length]

end Go.Proofs.YtigclopkoolocaaDoor
