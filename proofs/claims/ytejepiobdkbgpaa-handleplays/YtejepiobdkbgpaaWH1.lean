/-
  HandleNil, HandleMany walked. No conditions but that the arguments are numbers.
-/
import Derived.Test.YtejepiobdkbgpaaHn3
import Derived.Deep.DeepCutAuto
namespace Go.Proofs.Ytejepiobdkbgpaa
open Go.RowKit Go.Flo
set_option maxRecDepth 100000

set_option maxHeartbeats 2000000 in
theorem walk_hnil (w : World) (n : Int) : Calls Try.prog 5 #[.int .i64 n] w fun e w' => e = .returned (.bool true) ∧ Keep [] w w' := by
  have h1 := put_nil w n
  have h2 := get_nil w n
  have h3 := drop_nil w n
  have h4 := move_nil w n n
  have h5 := hlen_nil w
  have h6 := all_nil w
  have h7 := awake13_any w
  go_enter Try.func5, Try.ntmps5
  go_wp2_with fail
  (with_reducible refine h1.mono ?_)
  rintro e w1 ⟨rfl, rfl⟩
  go_wp2_with fail
  (with_reducible refine h2.mono ?_)
  rintro e w1 ⟨rfl, rfl⟩
  go_wp2_with fail
  (with_reducible refine h3.mono ?_)
  rintro e w1 ⟨rfl, rfl⟩
  go_wp2_with fail
  (with_reducible refine h4.mono ?_)
  rintro e w1 ⟨rfl, rfl⟩
  go_wp2_with fail
  (with_reducible refine h5.mono ?_)
  rintro e w1 ⟨rfl, rfl⟩
  go_wp2_with fail
  (with_reducible refine h6.mono ?_)
  rintro e w1 ⟨rfl, rfl⟩
  go_wp2_with fail
  (with_reducible refine h7.mono ?_)
  rintro e w1 ⟨rfl, k⟩
  go_wp2_with fail
  go_ret
  exact ⟨rfl, k⟩

/-- The first m slots taken, each for its own number. -/
def fillS (m : Nat) : Nat → Slt := fun j => if j < m then ⟨j, 0, true⟩ else ⟨0, 0, false⟩
theorem fill_zero : fillS 0 = noS := by
  funext j
  simp [fillS, noS]
theorem fill_lf {m : Nat} (h : m ≤ 64) : IsLf (fillS m) m := ⟨h, fun i hi => by simp [fillS, hi], fun _ => by simp [fillS]⟩
theorem fill_put (m : Nat) : putS (fillS m) m m = fillS (m + 1) := by
  funext j
  unfold putS fillS
  by_cases h : j = m
  · subst h; simp
  · have : j < m + 1 ↔ j < m := by omega
    simp [h, this]
theorem fill_age (m j : Nat) : (fillS m j).a = 0 := by
  unfold fillS
  split <;> rfl
theorem fill_taken {m j : Nat} (h : j < m) : (fillS m j).t = true := by simp [fillS, h]

/-- Where just the first m slots are taken there are m. -/
theorem allL_count {s : Nat → Slt} {m : Nat} (h1 : ∀ i, i < m → (s i).t = true) (h2 : ∀ i, m ≤ i → (s i).t = false) (k : Nat) : (allL s k).length = min k m := by
  induction k with
  | zero => simp [allL]
  | succ k ih =>
    by_cases h : k < m
    · rw [allL_yes (h1 k h), List.length_append, ih, List.length_singleton]; omega
    · rw [allL_no (h2 k (by omega)), ih]; omega

theorem mod_num (x : Int) (d : Int) (hd : 0 < d) (hd2 : d < 4294967296) : ∃ (u P : Nat), IntKind.u64.wrap x = u ∧ (P : Int) < d ∧ ((u : Int) % d = P) ∧ (u : Int).tmod d = P ∧ IntKind.u64.wrap (P : Int) = P ∧ IntKind.i64.wrap (P : Int) = P := by
  have hu : ∃ u : Nat, IntKind.u64.wrap x = u ∧ u < 18446744073709551616 := ⟨(IntKind.u64.wrap x).toNat, by rw [IntKind.wrap_u64]; omega, by rw [IntKind.wrap_u64]; omega⟩
  obtain ⟨u, hu, hu2⟩ := hu
  have h0 := Int.emod_nonneg (u : Int) (show d ≠ 0 by omega)
  have h1 := Int.emod_lt_of_pos (u : Int) hd
  refine ⟨u, ((u : Int) % d).toNat, hu, by omega, by omega, ?_, ?_, ?_⟩
  · rw [Int.tmod_eq_emod_of_nonneg (by omega)]; omega
  · rw [IntKind.wrap_u64]; omega
  · rw [IntKind.wrap_i64]; omega

def ManyRel (w : World) (g n : Nat) (x : Value) (wr : World) : Prop := ∃ k : Nat, k ≤ n ∧ x = .int .i64 k ∧ Tab wr g (fillS (min k 64)) ∧ Keep [] w wr

set_option maxHeartbeats 4000000 in
theorem walk_hmany (w : World) (x y : Int) : Calls Try.prog 4 #[.int .i64 x, .int .i64 y] w fun e w' => e = .returned (.bool true) ∧ Keep [] w w' := by
  have hn := new_any w
  obtain ⟨u, P, e1, e2, e3, e4, e5, e6⟩ := mod_num x 8 (by omega) (by omega)
  obtain ⟨u', D, d1, d2, d3, d4, d5, d6⟩ := mod_num y 60 (by omega) (by omega)
  go_enter Try.func4, Try.ntmps4
  go_wp2_with fail
  (with_reducible refine hn.mono ?_)
  rintro e w1 ⟨g, rfl, t1, hg, k1⟩
  have T1 := Lib.hid t1
  have K1 := Lib.hid k1
  clear hn t1 k1
  go_wp2_with fail
  clear e1 e3 e4 e5 e6
  obtain ⟨n, hn⟩ : ∃ n : Nat, 60 + P = n := ⟨_, rfl⟩
  have hni : (60 : Int) + P = n := by omega
  go_loopw [18] (fun x wr => ManyRel w g n x wr) (fun x _ => n - (intOf x).toNat)
  case atStart => exact ⟨0, by omega, rfl, by rw [show min 0 64 = 0 from rfl, fill_zero]; exact T1.out, K1.out⟩
  case round =>
    obtain ⟨k, hk, rfl, ht, hkp⟩ := hrel
    by_cases hlt : k < n
    · by_cases h64 : k < 64
      · rw [show min k 64 = k by omega] at ht
        have hp := put_at ht (fill_lf (by omega)) h64 (by rw [fill_age]; omega) k k (by rw [fill_age]; simp)
        rw [fill_put] at hp
        have hkn : (k : Int) < 60 + P := by omega
        have h64' : (k : Int) < 64 := by omega
        clear ht
        go_wp2_with fail
        (with_reducible refine hp.mono ?_)
        rintro e w2 ⟨rfl, t2, k2⟩
        have HH := Lib.hid (And.intro (show Tab w2 g (fillS (min (k + 1) 64)) by rw [show min (k + 1) 64 = k + 1 by omega]; exact t2) (keep_since hkp k2 (by simp; omega)))
        clear hp t2 k2 hkp
        go_wp2_with fail
        go_roundw
        case rel => exact ⟨_, _, _, _, _, ⟨k + 1, by omega, by go_num, HH.out.1, HH.out.2⟩, rfl, rfl, rfl, rfl, rfl⟩
        case measure => simp [intOf]; omega
      · have hm : min k 64 = 64 := by omega
        rw [hm] at ht
        have hp := put_full ht (fun i hi => fill_taken hi) (by rw [fill_age]; omega) k
        have hkn : (k : Int) < 60 + P := by omega
        have h64' : ¬ (k : Int) < 64 := by omega
        have HH := Lib.hid (And.intro (show Tab wr g (fillS (min (k + 1) 64)) by rw [show min (k + 1) 64 = 64 by omega]; exact ht) hkp)
        clear ht hkp hm
        go_wp2_with fail
        (with_reducible refine hp.mono ?_)
        rintro e w2 ⟨rfl, rfl⟩
        clear hp
        go_wp2_with fail
        go_roundw
        case rel => exact ⟨_, _, _, _, _, ⟨k + 1, by omega, by go_num, HH.out.1, HH.out.2⟩, rfl, rfl, rfl, rfl, rfl⟩
        case measure => simp [intOf]; omega
    · obtain rfl : k = n := by omega
      have hkn : ¬ (k : Int) < 60 + P := by omega
      obtain ⟨m, hm⟩ : ∃ m, min k 64 = m := ⟨_, rfl⟩
      rw [hm] at ht
      have hD : D < m := by omega
      have hd := drop_yes ht (h := D) (k := D) ⟨by omega, fill_taken hD, by rw [fill_age]; simp⟩ (by omega)
      clear ht
      go_wp2_with fail
      (with_reducible refine hd.mono ?_)
      rintro e w2 ⟨rfl, t2, k2⟩
      have hp := put_at t2 (n := D) ⟨by omega, fun i hi => by unfold dropS; rw [if_neg (by omega)]; exact fill_taken (by omega), fun _ => by unfold dropS; rw [if_pos rfl]⟩ (by omega) (by unfold dropS; rw [if_pos rfl, fill_age]; simp) 99 ((D : Int) + 64) (by unfold dropS; rw [if_pos rfl, fill_age]; simp; omega)
      clear hd t2
      go_wp2_with fail
      (with_reducible refine hp.mono ?_)
      rintro e w3 ⟨rfl, t3, k3⟩
      have hl := hlen_any t3
      have hcnt := allL_count (s := putS (dropS (fillS m) D) D 99) (m := m) (fun i hi => by
        unfold putS
        by_cases h : i = D
        · rw [if_pos h]
        · rw [if_neg h]; unfold dropS; rw [if_neg h]; exact fill_taken hi) (fun i hi => by
        unfold putS
        rw [if_neg (by omega)]; unfold dropS; rw [if_neg (by omega)]
        simp [fillS, Nat.not_lt.2 hi]) 64
      rw [hcnt, show min 64 m = m by omega] at hl
      have hK3 := keep_since (keep_since hkp k2 (by simp; omega)) k3 (by simp; omega)
      clear hp t3 k2 k3 hkp hcnt
      by_cases h64 : (60 : Int) + P ≤ 64
      · obtain rfl : m = k := by omega
        go_wp2_with fail
        (with_reducible refine hl.mono ?_)
        rintro e w4 ⟨rfl, k4⟩
        have ha := awake13_any w4
        go_wp2_with fail
        (with_reducible refine ha.mono ?_)
        rintro e w5 ⟨rfl, k5⟩
        go_wp2_with fail
        go_ret
        exact ⟨rfl, (hK3.trans k4).trans k5⟩
      · obtain rfl : m = 64 := by omega
        go_wp2_with fail
        (with_reducible refine hl.mono ?_)
        rintro e w4 ⟨rfl, k4⟩
        have ha := awake13_any w4
        go_wp2_with fail
        (with_reducible refine ha.mono ?_)
        rintro e w5 ⟨rfl, k5⟩
        go_wp2_with fail
        go_ret
        exact ⟨rfl, (hK3.trans k4).trans k5⟩
end Go.Proofs.Ytejepiobdkbgpaa
