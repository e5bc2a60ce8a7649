/-
  What the statements' own twin of Parse returns, for every text: the same as cplx.Parse. No conditions.
-/
import Derived.Test.YtjnaglellobmmaaDoorParse
namespace Go.Proofs.YtjnaglellobmmaaDoor
open Go.RowKit Go.Flo

theorem dv_cases (c : Nat) : (48 ≤ c ∧ c ≤ 57 ∧ dv c = some (c - 48)) ∨ (97 ≤ c ∧ c ≤ 102 ∧ dv c = some (c - 87)) ∨ (c < 48 ∧ dv c = none) ∨ (57 < c ∧ c < 97 ∧ dv c = none) ∨ (102 < c ∧ dv c = none) := by
  unfold dv
  by_cases h1 : 48 ≤ c ∧ c ≤ 57
  · exact Or.inl ⟨h1.1, h1.2, by rw [if_pos h1]⟩
  by_cases h2 : 97 ≤ c ∧ c ≤ 102
  · exact Or.inr (Or.inl ⟨h2.1, h2.2, by rw [if_neg h1, if_pos h2]⟩)
  · rw [if_neg h1, if_neg h2]
    by_cases h3 : c < 48
    · exact Or.inr (Or.inr (Or.inl ⟨h3, rfl⟩))
    by_cases h4 : c < 97
    · exact Or.inr (Or.inr (Or.inr (Or.inl ⟨by omega, h4, rfl⟩)))
    · exact Or.inr (Or.inr (Or.inr (Or.inr ⟨by omega, rfl⟩)))

set_option maxHeartbeats 2000000 in
theorem unhex_any (s : ByteArray) (hs : s.size ≤ 9223372036854775807) (w : World) :
    Calls Tryd.prog 51 #[.string s] w fun e w' => e = .returned (.tuple #[.int .u64 ((pW (nums s) 0).getD 0 : Nat), .bool ((pW (nums s) 0).isSome && ((s.size : Int) == 16))]) ∧ w = w' := by
  generalize hR : pW (nums s) 0 = R
  go_enter Tryd.func51, Tryd.ntmps51
  go_wp2_with fail
  go_loop [4, 9] (fun v i => PWRel s R v i) (fun _ i => s.size - (intOf i).toNat)
  case atStart => exact ⟨0, 0, by omega, by omega, rfl, rfl, hR⟩
  case round =>
    obtain ⟨k, u, hk, hu, rfl, rfl, hp⟩ := hrel
    have HP := Lib.hid hp
    have HU := Lib.hid hu
    clear hp hR hu
    by_cases hz : k < s.size
    · rcases dv_cases s[k].toNat with ⟨g1, g2, hdv⟩ | ⟨g1, g2, hdv⟩ | ⟨g1, hdv⟩ | ⟨g1, g2, hdv⟩ | ⟨g1, hdv⟩
      · have HDV := Lib.hid hdv
        clear hdv
        go_wp2
        go_round
        case rel =>
          have hp := HP.out
          rw [nums_drop s k hz] at hp
          simp only [pW, HDV.out] at hp
          have h16 : u * 16 % 18446744073709551616 % 16 = 0 := by omega
          refine ⟨k + 1, u * 16 % 18446744073709551616 + (s[k].toNat - 48), by omega, by omega, ?_, by go_num, hp⟩
          rw [← or_step u (s[k].toNat - 48) (by omega)]
          have e : ((s[k].toNat - 48 : Nat) : Int) = (s[k].toNat : Int) - 48 := by omega
          rw [e]
        case measure => simp [intOf]; omega
      · have HDV := Lib.hid hdv
        clear hdv
        go_wp2
        go_round
        case rel =>
          have hp := HP.out
          rw [nums_drop s k hz] at hp
          simp only [pW, HDV.out] at hp
          have h16 : u * 16 % 18446744073709551616 % 16 = 0 := by omega
          refine ⟨k + 1, u * 16 % 18446744073709551616 + (s[k].toNat - 87), by omega, by omega, ?_, by go_num, hp⟩
          rw [← or_step u (s[k].toNat - 87) (by omega)]
          have e : ((s[k].toNat - 87 : Nat) : Int) = (s[k].toNat : Int) - 97 + 10 := by omega
          rw [e]
        case measure => simp [intOf]; omega
      all_goals
        have HDV := Lib.hid hdv
        clear hdv
        go_wp2
        go_ret2
        have hp := HP.out
        rw [nums_drop s k hz] at hp
        simp only [pW, HDV.out] at hp
        subst hp
        exact ⟨rfl, rfl⟩
    · go_wp2
      go_ret2
      have hp := HP.out
      rw [nums_end s k hz] at hp
      simp only [pW] at hp
      subst hp
      exact ⟨rfl, rfl⟩

theorem unhex_some (s : ByteArray) (hs : s.size = 16) {a : Nat} (h : pW (nums s) 0 = some a) (w : World) :
    Calls Tryd.prog 51 #[.string s] w fun e w' => e = .returned (.tuple #[.int .u64 a, .bool true]) ∧ w = w' := by
  have k := unhex_any s (by omega) w
  rw [h, hs] at k
  exact k

theorem unhex_none (s : ByteArray) (hs : s.size = 16) (h : pW (nums s) 0 = none) (w : World) :
    Calls Tryd.prog 51 #[.string s] w fun e w' => e = .returned (.tuple #[.int .u64 0, .bool false]) ∧ w = w' := by
  have k := unhex_any s (by omega) w
  rw [h] at k
  exact k

theorem rparse_len (s : ByteArray) (h : ¬ s.size = 33) (w : World) : Calls Tryd.prog 41 #[.string s] w fun e w' => e = .returned (.tuple #[.complex .f64 0 0, .bool false]) ∧ w = w' := by
  have t : ((s.size : Int) != 33) = true := by simp; omega
  go_enter Tryd.func41, Tryd.ntmps41
  go_wp2
  go_ret2
  exact ⟨rfl, rfl⟩

theorem rparse_comma (s : ByteArray) (h : s.size = 33) (hc : ¬ (s[16]'(by omega)).toNat = 44) (w : World) : Calls Tryd.prog 41 #[.string s] w fun e w' => e = .returned (.tuple #[.complex .f64 0 0, .bool false]) ∧ w = w' := by
  go_enter Tryd.func41, Tryd.ntmps41
  go_wp2
  go_ret2
  exact ⟨rfl, rfl⟩

theorem rparse_no1 (s : ByteArray) (h : s.size = 33) (hc : (s[16]'(by omega)).toNat = 44) (r : Nat) (o : Bool)
    (h1 : ∀ w, Calls Tryd.prog 51 #[.string (s.extract 0 16)] w fun e w' => e = .returned (.tuple #[.int .u64 0, .bool false]) ∧ w = w')
    (h2 : ∀ w, Calls Tryd.prog 51 #[.string (s.extract 17 33)] w fun e w' => e = .returned (.tuple #[.int .u64 r, .bool o]) ∧ w = w') (w : World) :
    Calls Tryd.prog 41 #[.string s] w fun e w' => e = .returned (.tuple #[.complex .f64 0 0, .bool false]) ∧ w = w' := by
  go_enter Tryd.func41, Tryd.ntmps41
  go_wp2_with fail
  (with_reducible refine (h1 _).mono ?_)
  rintro e w' ⟨rfl, rfl⟩
  go_wp2_with fail
  (with_reducible refine (h2 _).mono ?_)
  rintro e w' ⟨rfl, rfl⟩
  go_wp2
  go_ret2
  exact ⟨rfl, rfl⟩

theorem rparse_no2 (s : ByteArray) (h : s.size = 33) (hc : (s[16]'(by omega)).toNat = 44) (r : Nat)
    (h1 : ∀ w, Calls Tryd.prog 51 #[.string (s.extract 0 16)] w fun e w' => e = .returned (.tuple #[.int .u64 r, .bool true]) ∧ w = w')
    (h2 : ∀ w, Calls Tryd.prog 51 #[.string (s.extract 17 33)] w fun e w' => e = .returned (.tuple #[.int .u64 0, .bool false]) ∧ w = w') (w : World) :
    Calls Tryd.prog 41 #[.string s] w fun e w' => e = .returned (.tuple #[.complex .f64 0 0, .bool false]) ∧ w = w' := by
  go_enter Tryd.func41, Tryd.ntmps41
  go_wp2_with fail
  (with_reducible refine (h1 _).mono ?_)
  rintro e w' ⟨rfl, rfl⟩
  go_wp2_with fail
  (with_reducible refine (h2 _).mono ?_)
  rintro e w' ⟨rfl, rfl⟩
  go_wp2
  go_ret2
  exact ⟨rfl, rfl⟩

theorem rparse_yes (s : ByteArray) (h : s.size = 33) (hc : (s[16]'(by omega)).toNat = 44) (a b : Nat)
    (h1 : ∀ w, Calls Tryd.prog 51 #[.string (s.extract 0 16)] w fun e w' => e = .returned (.tuple #[.int .u64 a, .bool true]) ∧ w = w')
    (h2 : ∀ w, Calls Tryd.prog 51 #[.string (s.extract 17 33)] w fun e w' => e = .returned (.tuple #[.int .u64 b, .bool true]) ∧ w = w') (w : World) :
    Calls Tryd.prog 41 #[.string s] w fun e w' => e = .returned (.tuple #[.complex .f64 a b, .bool true]) ∧ w = w' := by
  go_enter Tryd.func41, Tryd.ntmps41
  go_wp2_with fail
  (with_reducible refine (h1 _).mono ?_)
  rintro e w' ⟨rfl, rfl⟩
  go_wp2_with fail
  (with_reducible refine (h2 _).mono ?_)
  rintro e w' ⟨rfl, rfl⟩
  go_wp2_with fail
  (with_reducible refine (rof_any _ _ _).mono ?_)
  rintro e w' ⟨rfl, rfl⟩
  go_wp2
  go_ret2
  exact ⟨rfl, rfl⟩

/-- What the twin's Parse answers. -/
theorem rparse_any (s : ByteArray) (w : World) :
    Calls Tryd.prog 41 #[.string s] w fun e w' => e = .returned (.tuple #[.complex .f64 ((pC (nums s)).getD (0, 0)).1 ((pC (nums s)).getD (0, 0)).2, .bool (pC (nums s)).isSome]) ∧ w = w' := by
  unfold pC
  rw [nums_length]
  by_cases h : s.size = 33
  · rw [nums_16 s h]
    by_cases hc : (s[16]'(by omega)).toNat = 44
    · rw [if_pos ⟨h, by rw [hc]⟩]
      have e1 : nums (s.extract 0 16) = (nums s).take 16 := by rw [nums_extract]; rfl
      have e2 : nums (s.extract 17 33) = (nums s).drop 17 := by
        rw [nums_extract, List.take_of_length_le]
        rw [List.length_drop, nums_length]
        omega
      have z1 : (s.extract 0 16).size = 16 := by rw [ByteArray.size_extract]; omega
      have z2 : (s.extract 17 33).size = 16 := by rw [ByteArray.size_extract]; omega
      cases r1 : pW ((nums s).take 16) 0 with
      | none => exact rparse_no1 s h hc _ _ (unhex_none _ z1 (by rw [e1]; exact r1)) (unhex_any _ (by omega)) w
      | some a =>
        cases r2 : pW ((nums s).drop 17) 0 with
        | none => exact rparse_no2 s h hc a (unhex_some _ z1 (by rw [e1]; exact r1)) (unhex_none _ z2 (by rw [e2]; exact r2)) w
        | some b => exact rparse_yes s h hc a b (unhex_some _ z1 (by rw [e1]; exact r1)) (unhex_some _ z2 (by rw [e2]; exact r2)) w
    · rw [if_neg (by rintro ⟨_, h2⟩; exact hc (Option.some.inj h2))]
      exact rparse_comma s h hc w
  · rw [if_neg (fun h' => h h'.1)]
    exact rparse_len s h w

end Go.Proofs.YtjnaglellobmmaaDoor
