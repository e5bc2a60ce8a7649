/-
  What cplx.Parse returns, for every text; and that a text that was told is read as it was. No conditions but that a word is one of 64 bits.
-/
import Derived.Test.YtjnaglellobmmaaDoorText
import Derived.Lib.Strings
namespace Go.Proofs.YtjnaglellobmmaaDoor
open Go.RowKit Go.Flo

/-- The value of a digit's byte. -/
def dv (c : Nat) : Option Nat := if 48 ≤ c ∧ c ≤ 57 then some (c - 48) else if 97 ≤ c ∧ c ≤ 102 then some (c - 87) else none

/-- Digits read on from w. -/
def pW : List Nat → Nat → Option Nat
  | [], w => some w
  | c :: cs, w => match dv c with
    | none => none
    | some d => pW cs (w * 16 % 18446744073709551616 + d)

/-- A string's bytes as numbers. -/
def nums (s : ByteArray) : List Nat := s.data.toList.map (·.toNat)

theorem ret_two {a b c d : Value} (h : a = c) (k : b = d) : Ending.returned (.tuple #[a, b]) = .returned (.tuple #[c, d]) := by rw [h, k]

theorem digit_low (c d : Nat) (h : 48 ≤ c) (h' : c ≤ 57) (hd : d + 48 = c) (w : World) : Calls Tryd.prog 65 #[.int .u8 c] w fun e w' => e = .returned (.tuple #[.int .u64 d, .bool true]) ∧ w = w' := by
  have HD := Lib.hid hd
  clear hd
  go_enter Tryd.func65, Tryd.ntmps65
  go_wp2
  go_ret2
  have := HD.out
  exact ⟨ret_two (congrArg (Value.int .u64) (by omega)) rfl, rfl⟩

theorem digit_high (c d : Nat) (h : 97 ≤ c) (h' : c ≤ 102) (hd : d + 87 = c) (w : World) : Calls Tryd.prog 65 #[.int .u8 c] w fun e w' => e = .returned (.tuple #[.int .u64 d, .bool true]) ∧ w = w' := by
  have HD := Lib.hid hd
  clear hd
  go_enter Tryd.func65, Tryd.ntmps65
  go_wp2
  go_ret2
  have := HD.out
  exact ⟨ret_two (congrArg (Value.int .u64) (by omega)) rfl, rfl⟩

theorem digit_not (c : Nat) (h : dv c = none) (w : World) : Calls Tryd.prog 65 #[.int .u8 c] w fun e w' => e = .returned (.tuple #[.int .u64 0, .bool false]) ∧ w = w' := by
  unfold dv at h
  by_cases h1 : 48 ≤ c ∧ c ≤ 57
  · rw [if_pos h1] at h; cases h
  rw [if_neg h1] at h
  by_cases h2 : 97 ≤ c ∧ c ≤ 102
  · rw [if_pos h2] at h; cases h
  clear h
  rcases (by omega : c < 48 ∨ (57 < c ∧ c < 97) ∨ 102 < c) with g | ⟨g, g'⟩ | g
  · clear h1 h2
    go_enter Tryd.func65, Tryd.ntmps65
    go_wp2
    go_ret2
    exact ⟨rfl, rfl⟩
  · clear h1 h2
    go_enter Tryd.func65, Tryd.ntmps65
    go_wp2
    go_ret2
    exact ⟨rfl, rfl⟩
  · clear h1 h2
    go_enter Tryd.func65, Tryd.ntmps65
    go_wp2
    go_ret2
    exact ⟨rfl, rfl⟩

theorem digit_some (c d : Nat) (h : dv c = some d) (w : World) : Calls Tryd.prog 65 #[.int .u8 c] w fun e w' => e = .returned (.tuple #[.int .u64 d, .bool true]) ∧ w = w' := by
  unfold dv at h
  by_cases h1 : 48 ≤ c ∧ c ≤ 57
  · rw [if_pos h1] at h; cases h
    exact digit_low c _ h1.1 h1.2 (by omega) w
  rw [if_neg h1] at h
  by_cases h2 : 97 ≤ c ∧ c ≤ 102
  · rw [if_pos h2] at h; cases h
    exact digit_high c _ h2.1 h2.2 (by omega) w
  · rw [if_neg h2] at h; cases h

theorem dv_lt {c d : Nat} (h : dv c = some d) : d < 16 := by
  unfold dv at h
  split at h
  · cases h; omega
  · split at h
    · cases h; omega
    · cases h

theorem or_step (u d : Nat) (hd : d < 16) : bits BinOp.or IntKind.u64 (IntKind.u64.wrap ((u : Int) * 16)) (d : Int) = ((u * 16 % 18446744073709551616 + d : Nat) : Int) := by
  have e : IntKind.u64.wrap ((u : Int) * 16) = ((u * 16 % 18446744073709551616 : Nat) : Int) := by
    rw [IntKind.wrap_u64]
    omega
  rw [e, u64_or_nat _ _ (Nat.mod_lt _ (by decide)) (by omega), nat_join 4 _ _ (by omega) (by omega)]

theorem nums_drop (s : ByteArray) (k : Nat) (h : k < s.size) : (nums s).drop k = s[k].toNat :: (nums s).drop (k + 1) := by
  have hl : k < (nums s).length := by simpa [nums] using h
  rw [List.drop_eq_getElem_cons hl]
  congr 1
  simp [nums]
  rfl

theorem nums_end (s : ByteArray) (k : Nat) (h : ¬ k < s.size) : (nums s).drop k = [] := by
  apply List.drop_eq_nil_of_le
  simp only [nums, List.length_map, Array.length_toList]
  exact Nat.le_of_not_lt h

def PWRel (s : ByteArray) (R : Option Nat) (v i : Value) : Prop :=
  ∃ (k u : Nat), k ≤ s.size ∧ u < 18446744073709551616 ∧ v = .int .u64 u ∧ i = .int .i64 k ∧ pW ((nums s).drop k) u = R

set_option maxHeartbeats 1000000 in
theorem parseWord_any (s : ByteArray) (hs : s.size ≤ 9223372036854775807) (w : World) :
    Calls Tryd.prog 57 #[.string s] w fun e w' => e = .returned (.tuple #[.int .u64 ((pW (nums s) 0).getD 0 : Nat), .bool (pW (nums s) 0).isSome]) ∧ w = w' := by
  generalize hR : pW (nums s) 0 = R
  go_enter Tryd.func57, Tryd.ntmps57
  go_wp2_with fail
  go_loop [4, 10] (fun v i => PWRel s R v i) (fun _ i => s.size - (intOf i).toNat)
  case atStart => exact ⟨0, 0, by omega, by omega, rfl, rfl, hR⟩
  case round =>
    obtain ⟨k, u, hk, hu, rfl, rfl, hp⟩ := hrel
    have HP := Lib.hid hp
    clear hp hR
    by_cases hz : k < s.size
    · cases hdv : dv s[k].toNat with
      | none =>
        have hcall := fun w => digit_not s[k].toNat hdv w
        have HDV := Lib.hid hdv
        clear hdv
        go_wp2_with fail
        (with_reducible refine (hcall _).mono ?_)
        rintro e w' ⟨rfl, rfl⟩
        go_wp2
        go_ret2
        have hp := HP.out
        rw [nums_drop s k hz] at hp
        simp only [pW, HDV.out] at hp
        subst hp
        exact ⟨rfl, rfl⟩
      | some d =>
        have hcall := fun w => digit_some s[k].toNat d hdv w
        have hd16 := dv_lt hdv
        have HDV := Lib.hid hdv
        clear hdv
        go_wp2_with fail
        (with_reducible refine (hcall _).mono ?_)
        rintro e w' ⟨rfl, rfl⟩
        go_wp2
        go_round
        case rel =>
          have hp := HP.out
          rw [nums_drop s k hz] at hp
          simp only [pW, HDV.out] at hp
          have h16 : u * 16 % 18446744073709551616 % 16 = 0 := by omega
          refine ⟨k + 1, u * 16 % 18446744073709551616 + d, by omega, by omega, ?_, by go_num, hp⟩
          rw [or_step u d hd16]
        case measure => simp [intOf]; omega
    · go_wp2
      go_ret2
      have hp := HP.out
      rw [nums_end s k hz] at hp
      simp only [pW] at hp
      subst hp
      exact ⟨rfl, rfl⟩

/-- What a text stands for. -/
def pC (l : List Nat) : Option (Nat × Nat) :=
  if l.length = 33 ∧ l[16]? = some 44 then
    (pW (l.take 16) 0).bind fun a => (pW (l.drop 17) 0).bind fun b => some (a, b)
  else none

theorem parseWord_some (s : ByteArray) (hs : s.size ≤ 9223372036854775807) {a : Nat} (h : pW (nums s) 0 = some a) (w : World) :
    Calls Tryd.prog 57 #[.string s] w fun e w' => e = .returned (.tuple #[.int .u64 a, .bool true]) ∧ w = w' := by
  have k := parseWord_any s hs w
  rw [h] at k
  exact k

theorem parseWord_none (s : ByteArray) (hs : s.size ≤ 9223372036854775807) (h : pW (nums s) 0 = none) (w : World) :
    Calls Tryd.prog 57 #[.string s] w fun e w' => e = .returned (.tuple #[.int .u64 0, .bool false]) ∧ w = w' := by
  have k := parseWord_any s hs w
  rw [h] at k
  exact k

theorem parse_len (s : ByteArray) (h : ¬ s.size = 33) (w : World) : Calls Tryd.prog 49 #[.string s] w fun e w' => e = .returned (.tuple #[.complex .f64 0 0, .bool false]) ∧ w = w' := by
  have t : ((s.size : Int) != 33) = true := by simp; omega
  go_enter Tryd.func49, Tryd.ntmps49
  go_wp2
  go_ret2
  exact ⟨rfl, rfl⟩

theorem parse_comma (s : ByteArray) (h : s.size = 33) (hc : ¬ (s[16]'(by omega)).toNat = 44) (w : World) : Calls Tryd.prog 49 #[.string s] w fun e w' => e = .returned (.tuple #[.complex .f64 0 0, .bool false]) ∧ w = w' := by
  go_enter Tryd.func49, Tryd.ntmps49
  go_wp2
  go_ret2
  exact ⟨rfl, rfl⟩

theorem parse_no1 (s : ByteArray) (h : s.size = 33) (hc : (s[16]'(by omega)).toNat = 44) (r : Nat) (o : Bool)
    (h1 : ∀ w, Calls Tryd.prog 57 #[.string (s.extract 0 16)] w fun e w' => e = .returned (.tuple #[.int .u64 0, .bool false]) ∧ w = w')
    (h2 : ∀ w, Calls Tryd.prog 57 #[.string (s.extract 17 33)] w fun e w' => e = .returned (.tuple #[.int .u64 r, .bool o]) ∧ w = w') (w : World) :
    Calls Tryd.prog 49 #[.string s] w fun e w' => e = .returned (.tuple #[.complex .f64 0 0, .bool false]) ∧ w = w' := by
  go_enter Tryd.func49, Tryd.ntmps49
  go_wp2_with fail
  (with_reducible refine (h1 _).mono ?_)
  rintro e w' ⟨rfl, rfl⟩
  go_wp2_with fail
  (with_reducible refine (h2 _).mono ?_)
  rintro e w' ⟨rfl, rfl⟩
  go_wp2
  go_ret2
  exact ⟨rfl, rfl⟩

theorem parse_no2 (s : ByteArray) (h : s.size = 33) (hc : (s[16]'(by omega)).toNat = 44) (r : Nat)
    (h1 : ∀ w, Calls Tryd.prog 57 #[.string (s.extract 0 16)] w fun e w' => e = .returned (.tuple #[.int .u64 r, .bool true]) ∧ w = w')
    (h2 : ∀ w, Calls Tryd.prog 57 #[.string (s.extract 17 33)] w fun e w' => e = .returned (.tuple #[.int .u64 0, .bool false]) ∧ w = w') (w : World) :
    Calls Tryd.prog 49 #[.string s] w fun e w' => e = .returned (.tuple #[.complex .f64 0 0, .bool false]) ∧ w = w' := by
  go_enter Tryd.func49, Tryd.ntmps49
  go_wp2_with fail
  (with_reducible refine (h1 _).mono ?_)
  rintro e w' ⟨rfl, rfl⟩
  go_wp2_with fail
  (with_reducible refine (h2 _).mono ?_)
  rintro e w' ⟨rfl, rfl⟩
  go_wp2
  go_ret2
  exact ⟨rfl, rfl⟩

theorem parse_yes (s : ByteArray) (h : s.size = 33) (hc : (s[16]'(by omega)).toNat = 44) (a b : Nat)
    (h1 : ∀ w, Calls Tryd.prog 57 #[.string (s.extract 0 16)] w fun e w' => e = .returned (.tuple #[.int .u64 a, .bool true]) ∧ w = w')
    (h2 : ∀ w, Calls Tryd.prog 57 #[.string (s.extract 17 33)] w fun e w' => e = .returned (.tuple #[.int .u64 b, .bool true]) ∧ w = w') (w : World) :
    Calls Tryd.prog 49 #[.string s] w fun e w' => e = .returned (.tuple #[.complex .f64 a b, .bool true]) ∧ w = w' := by
  go_enter Tryd.func49, Tryd.ntmps49
  go_wp2_with fail
  (with_reducible refine (h1 _).mono ?_)
  rintro e w' ⟨rfl, rfl⟩
  go_wp2_with fail
  (with_reducible refine (h2 _).mono ?_)
  rintro e w' ⟨rfl, rfl⟩
  go_wp2_with fail
  (with_reducible refine (of_any _ _ _).mono ?_)
  rintro e w' ⟨rfl, rfl⟩
  go_wp2
  go_ret2
  exact ⟨rfl, rfl⟩

theorem nums_extract (s : ByteArray) (a b : Nat) : nums (s.extract a b) = ((nums s).drop a).take (b - a) := by
  unfold nums
  rw [Lib.extract_data, List.map_take, List.map_drop]

theorem extract_size_le (s : ByteArray) (a b : Nat) (h : s.size = 33) : (s.extract a b).size ≤ 9223372036854775807 := by
  rw [ByteArray.size_extract]
  omega

theorem nums_16 (s : ByteArray) (h : s.size = 33) : (nums s)[16]? = some (s[16]'(by omega)).toNat := by
  have e := nums_drop s 16 (by omega)
  have : (nums s)[16]? = ((nums s).drop 16)[0]? := by simp
  rw [this, e]
  rfl

theorem nums_length (s : ByteArray) : (nums s).length = s.size := by simp [nums]

/-- What Parse answers. -/
theorem parse_any (s : ByteArray) (w : World) :
    Calls Tryd.prog 49 #[.string s] w fun e w' => e = .returned (.tuple #[.complex .f64 ((pC (nums s)).getD (0, 0)).1 ((pC (nums s)).getD (0, 0)).2, .bool (pC (nums s)).isSome]) ∧ w = w' := by
  unfold pC
  rw [nums_length]
  by_cases h : s.size = 33
  · rw [nums_16 s h]
    by_cases hc : (s[16]'(by omega)).toNat = 44
    · rw [if_pos ⟨h, by rw [hc]⟩]
      have e1 : nums (s.extract 0 16) = (nums s).take 16 := by rw [nums_extract]; rfl
      have e2 : nums (s.extract 17 33) = (nums s).drop 17 := by
        rw [nums_extract, List.take_of_length_le]
        rw [List.length_drop, nums_length]
        omega
      cases r1 : pW ((nums s).take 16) 0 with
      | none => exact parse_no1 s h hc _ _ (parseWord_none _ (extract_size_le s _ _ h) (by rw [e1]; exact r1)) (parseWord_any _ (extract_size_le s _ _ h)) w
      | some a =>
        cases r2 : pW ((nums s).drop 17) 0 with
        | none => exact parse_no2 s h hc a (parseWord_some _ (extract_size_le s _ _ h) (by rw [e1]; exact r1)) (parseWord_none _ (extract_size_le s _ _ h) (by rw [e2]; exact r2)) w
        | some b => exact parse_yes s h hc a b (parseWord_some _ (extract_size_le s _ _ h) (by rw [e1]; exact r1)) (parseWord_some _ (extract_size_le s _ _ h) (by rw [e2]; exact r2)) w
    · rw [if_neg (by rintro ⟨_, h2⟩; exact hc (Option.some.inj h2))]
      exact parse_comma s h hc w
  · rw [if_neg (fun h' => h h'.1)]
    exact parse_len s h w

/-! What was told is read as it was. -/
theorem hexDigit_lt {d : Nat} (h : d < 16) : hexDigit d < 256 := by unfold hexDigit; split <;> omega

theorem dv_hex {d : Nat} (h : d < 16) : dv (hexDigit d) = some d := by
  unfold hexDigit dv
  split
  · rw [if_pos (by omega)]
    congr 1
    omega
  · rw [if_neg (by omega), if_pos (by omega)]
    congr 1
    omega

theorem hexN_lt (x j : Nat) : ∀ c ∈ hexN x j, c < 256 := by
  intro c hc
  simp only [hexN, List.mem_map] at hc
  obtain ⟨i, _, rfl⟩ := hc
  exact hexDigit_lt (dig_lt _ _)

theorem textL_lt (a b : Nat) : ∀ c ∈ textL a b, c < 256 := by
  intro c hc
  simp only [textL, List.mem_append, List.mem_singleton] at hc
  rcases hc with (h | h) | h
  · exact hexN_lt a 16 c h
  · omega
  · exact hexN_lt b 16 c h

theorem nums_text (a b : Nat) : nums (textB a b) = textL a b := by
  unfold nums textB
  rw [strOfNums_data, List.map_map, List.map_map]
  have : ∀ c ∈ textL a b, (((fun x : UInt8 => x.toNat) ∘ fun n : Int => UInt8.ofNat n.toNat) ∘ fun (d : Nat) => (d : Int)) c = c := by
    intro c hc
    have := textL_lt a b c hc
    simp only [Function.comp_apply, Int.toNat_natCast, UInt8.toNat_ofNat']
    omega
  rw [List.map_congr_left this, List.map_id']

theorem pW_append (l m : List Nat) : ∀ w, pW (l ++ m) w = (pW l w).bind (pW m) := by
  induction l with
  | nil => intro w; rfl
  | cons c cs ih =>
    intro w
    simp only [List.cons_append, pW]
    cases dv c with
    | none => rfl
    | some d => exact ih _

theorem pW_hexN (x : Nat) (hx : x < 2 ^ 64) : ∀ j, j ≤ 16 → pW (hexN x j) 0 = some (x / 2 ^ (64 - 4 * j)) := by
  intro j
  induction j with
  | zero =>
    intro _
    simp only [hexN, List.range_zero, List.map_nil, pW]
    rw [Nat.div_eq_of_lt (by simpa using hx)]
  | succ j ih =>
    intro hj
    rw [hexN_succ, pW_append, ih (by omega)]
    simp only [Option.bind_some, pW, dv_hex (dig_lt _ _)]
    congr 1
    have e : 64 - 4 * (j + 1) = 60 - 4 * j := by omega
    have e2 : 64 - 4 * j = (60 - 4 * j) + 4 := by omega
    rw [e, e2, Nat.pow_add, ← Nat.div_div_eq_div_mul]
    unfold dig
    have hq : x / 2 ^ (60 - 4 * j) ≤ x := Nat.div_le_self _ _
    generalize x / 2 ^ (60 - 4 * j) = q at hq
    omega

theorem pC_text (a b : Nat) (ha : a < 18446744073709551616) (hb : b < 18446744073709551616) : pC (textL a b) = some (a, b) := by
  unfold pC
  have h16 : (textL a b)[16]? = some 44 := by
    unfold textL
    rw [List.append_assoc, List.getElem?_append_right (by simp [hexN_length]), hexN_length]
    rfl
  rw [if_pos ⟨textL_length a b, h16⟩]
  have t1 : (textL a b).take 16 = hexN a 16 := by
    unfold textL
    rw [List.append_assoc, List.take_append_of_le_length (by simp [hexN_length]), List.take_of_length_le (by simp [hexN_length])]
  have t2 : (textL a b).drop 17 = hexN b 16 := by
    unfold textL
    rw [List.drop_append_of_le_length (by simp [hexN_length]), List.drop_eq_nil_of_le (by simp [hexN_length])]
    rfl
  rw [t1, t2, pW_hexN a ha 16 (by omega), pW_hexN b hb 16 (by omega)]
  simp

theorem textB_inj {a b c d : Nat} (ha : a < 18446744073709551616) (hb : b < 18446744073709551616) (hc : c < 18446744073709551616) (hd : d < 18446744073709551616) (h : textB a b = textB c d) : a = c ∧ b = d := by
  have e : textL a b = textL c d := by rw [← nums_text, ← nums_text, h]
  have k := pC_text a b ha hb
  rw [e, pC_text c d hc hd] at k
  simp only [Option.some.injEq, Prod.mk.injEq] at k
  exact ⟨k.1.symm, k.2.symm⟩

theorem parse_text (a b : Nat) (ha : a < 18446744073709551616) (hb : b < 18446744073709551616) (w : World) : Calls Tryd.prog 49 #[.string (textB a b)] w fun e w' => e = .returned (.tuple #[.complex .f64 a b, .bool true]) ∧ w = w' := by
  have k := parse_any (textB a b) w
  rw [nums_text, pC_text a b ha hb] at k
  exact k

theorem textB_size (a b : Nat) : (textB a b).size = 33 := by
  unfold textB
  rw [strOfNums_size, List.length_map, textL_length]

end Go.Proofs.YtjnaglellobmmaaDoor
