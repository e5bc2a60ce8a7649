/-
  NvmPlays, walked. No conditions.
-/
import Derived.Test.YtjicfjnkammmcaaLike
import Derived.Test.YtjicfjnkammmcaaRef7
namespace Go.Proofs.Ytjicfjnkammmcaa
open Go.RowKit Go.Flo

set_option maxHeartbeats 4000000 in
theorem rnew_zero (w : World) (x : Int) (D : List Nat) (hD : ∀ k ∈ D, k < w.heap.size) (hx : x ≤ 0) :
    Calls Try.prog 12 #[.int .i64 x] w (RNewPost 0 D w) := by
  have hB : Blk (w.alloc (.cells #[.int .i64 0, .slice none 0 0, .int .i64 0, .int .i64 0, .bool false] 63)) w.heap.size 63 #[.int .i64 (0 : Nat), .slice none 0 0, .int .i64 0, .int .i64 0, .bool false] := Blk.new w 63 _
  have c0 : (w.alloc (.cells #[.int .i64 0, .slice none 0 0, .int .i64 0, .int .i64 0, .bool false] 63)).cell? ⟨w.heap.size, 0, none⟩ = some (.int .i64 0) := (hB.cell 0).trans rfl
  obtain ⟨T, e1, e2, e3⟩ := made_twin (n := 0) (D := D) (xs := []) (w := w) (by omega) hD hB ((World.ownsRow_nil w w.heap.size 65 4).alloc _) (fun k hk => absurd hk (by simp [nl])) (Keep.alloc _ _) (Nat.le_refl _)
  have hk : Keep [] w (w.alloc (.cells #[.int .i64 0, .slice none 0 0, .int .i64 0, .int .i64 0, .bool false] 63)) := Keep.alloc _ _
  clear hB
  have h60 : x ≤ 65536 := by omega
  rcases Int.lt_or_eq_of_le hx with h | h
  · have hneg : ¬ 0 < x := by omega
    go_enter Try.func12, Try.ntmps12
    go_wp2_with fail
    generalize w.alloc (.cells #[.int .i64 0, .slice none 0 0, .int .i64 0, .int .i64 0, .bool false] 63) = wa at *
    go_loopw [4] (fun x wr => x = .int .i64 0 ∧ wa = wr) (fun x _ => 0)
    case atStart => exact ⟨rfl, rfl⟩
    case round =>
      obtain ⟨rfl, rfl⟩ := hrel
      go_wp2
      go_ret
      exact ⟨T, by rw [e1]; rfl, e2, e3, hk⟩
  · subst h
    go_enter Try.func12, Try.ntmps12
    go_wp2_with fail
    generalize w.alloc (.cells #[.int .i64 0, .slice none 0 0, .int .i64 0, .int .i64 0, .bool false] 63) = wa at *
    go_loopw [4] (fun x wr => x = .int .i64 0 ∧ wa = wr) (fun x _ => 0)
    case atStart => exact ⟨rfl, rfl⟩
    case round =>
      obtain ⟨rfl, rfl⟩ := hrel
      go_wp2
      go_ret
      exact ⟨T, by rw [e1]; rfl, e2, e3, hk⟩

def PlRel (w : World) (L : Loc) (T : TLoc) (D : List Nat) (len top : Nat) (x : Value) (wr : World) : Prop :=
  ∃ (i : Nat) (S : St), x = .int .i64 i ∧ i ≤ len ∧ i ≤ top ∧ Dev wr L S ∧ TwinE wr T D S ∧ 0 ≤ S.steps ∧ S.steps ≤ i ∧ (∀ k ∈ T.own, k < wr.heap.size) ∧ Keep [] w wr

set_option maxRecDepth 100000 in
set_option maxHeartbeats 8000000 in
theorem plays_small (a0 : Int) (n : Nat) (a1 : Option Addr) (len1 cap1 : Nat) (w : World) (h1 : IsCalls w a1 len1 cap1) (ha : a0 ≤ 60)
    (hN : Calls Try.prog 11 #[.int .i64 a0] w (DevPost (ofS n fun _ => 0) w)) (hRN : ∀ W D, (∀ k ∈ D, k < W.heap.size) → Calls Try.prog 12 #[.int .i64 a0] W (RNewPost n D W)) :
    Calls Try.prog 3 #[.int .i64 a0, .slice a1 len1 cap1] w fun e w' => e = .returned (.bool true) ∧ Keep [] w w' := by
  obtain ⟨hlc, hcm, hcalls⟩ := h1
  have HC := Lib.hid hcalls
  have HRN := Lib.hid hRN
  clear hcalls hRN
  go_enter Try.func3, Try.ntmps3
  go_wp2_with fail
  (with_reducible refine hN.mono ?_)
  rintro e w1 ⟨L, rfl, hD, hf, hK⟩
  have hr := HRN.out w1 L.own hD.lt
  clear hN
  go_wp2_with fail
  (with_reducible refine hr.mono ?_)
  rintro e w2 ⟨T, rfl, hT, hTo, hK2⟩
  have hD2 := hD.keep hK2 (by simp)
  have hK3 := hK.trans hK2
  have hsz := hK.size
  have hTf : ∀ k ∈ T.own, w.heap.size ≤ k := fun k hk => by have := (hTo k hk).1; omega
  have hTl : ∀ k ∈ T.own, k < w2.heap.size := fun k hk => (hTo k hk).2
  have hown : ∀ k ∈ L.own ++ T.own, w.heap.size ≤ k := fun k hk => by
    rcases List.mem_append.1 hk with h | h
    · exact hf k h
    · exact hTf k h
  have HOWN := Lib.hid hown
  clear hr hTo hD hK hK2 hsz hf hTf hown HRN
  go_wp2_with fail
  go_loopw [7] (fun x wr => PlRel w L T L.own len1 80 x wr) (fun x _ => 80 - (intOf x).toNat)
  case atStart => exact ⟨0, _, rfl, by omega, by omega, hD2, hT, by simp [ofS], by simp [ofS], hTl, hK3⟩
  case round =>
    obtain ⟨i, S, rfl, hi1, hi2, hD3, hT3, s0, s1, hTl3, hK4⟩ := hrel
    clear hD2 hT hTl hK3
    by_cases hlt : i < len1 ∧ i < 80
    · obtain ⟨hl, h60⟩ := hlt
      obtain ⟨b, o, rfl, hb, hat⟩ := HC.out (by omega)
      obtain ⟨c, hc⟩ := hat i hl
      have hc' := hc.keep hK4
      have c0 := hc'.c0
      have c1 := hc'.c1
      have c2 := hc'.c2
      have c3 := hc'.c3
      have hdo := do_any wr L T L.own (fun _ h => h) S hD3 hT3 hTl3 c s0 (by omega) hc.t0 hc.t1 (hc.pk.lift hK4 HOWN.out) hc.pb
      have e1 := doS_steps S c
      clear hat HC
      have hl' : (i : Int) < (len1 : Int) := by omega
      have h60' : (i : Int) < 80 := by omega
      go_wp2_with fail
      (with_reducible refine hdo.mono ?_)
      rintro e w3 ⟨rfl, hD5, hT5, hK5⟩
      have hK6 := hK4.into hK5 HOWN.out
      have hTl5 : ∀ k ∈ T.own, k < w3.heap.size := fun k hk => Nat.lt_of_lt_of_le (hTl3 k hk) hK5.size
      generalize doS S c = S' at *
      clear hdo hD3 hT3 hK5 hTl3
      go_wp2_with fail
      exact ⟨⟨i + 1, S', by go_num, by omega, by omega, hD5, hT5, by omega, by omega, hTl5, hK6⟩, by simp [intOf]; omega⟩
    · by_cases hl : i < len1
      · have hl' : (i : Int) < (len1 : Int) := by omega
        have h60 : decide ((i : Int) < 80) = false := by simp; omega
        have hli := like_any wr L T L.own S hD3 hT3
        clear hlt HC
        go_wp2_with fail
        (with_reducible refine hli.mono ?_)
        rintro e w4 ⟨rfl, hK5⟩
        clear hli
        go_wp2_with fail
        (with_reducible refine (awake_any w4).mono ?_)
        rintro e w5 ⟨rfl, hK6⟩
        go_wp2
        go_ret
        exact ⟨rfl, (hK4.trans hK5).trans hK6⟩
      · have hl' : decide ((i : Int) < (len1 : Int)) = false := by simp; omega
        have hl2 : decide (i < len1) = false := by simp; omega
        have hli := like_any wr L T L.own S hD3 hT3
        clear hlt HC
        go_wp2_with fail
        (with_reducible refine hli.mono ?_)
        rintro e w4 ⟨rfl, hK5⟩
        clear hli
        go_wp2_with fail
        (with_reducible refine (awake_any w4).mono ?_)
        rintro e w5 ⟨rfl, hK6⟩
        go_wp2
        go_ret
        exact ⟨rfl, (hK4.trans hK5).trans hK6⟩

set_option maxRecDepth 100000 in
set_option maxHeartbeats 8000000 in
theorem plays_great (a0 : Int) (n : Nat) (a1 : Option Addr) (len1 cap1 : Nat) (w : World) (h1 : IsCalls w a1 len1 cap1) (ha : 60 < a0)
    (hN : Calls Try.prog 11 #[.int .i64 60] w (DevPost (ofS n fun _ => 0) w)) (hRN : ∀ W D, (∀ k ∈ D, k < W.heap.size) → Calls Try.prog 12 #[.int .i64 60] W (RNewPost n D W)) :
    Calls Try.prog 3 #[.int .i64 a0, .slice a1 len1 cap1] w fun e w' => e = .returned (.bool true) ∧ Keep [] w w' := by
  obtain ⟨hlc, hcm, hcalls⟩ := h1
  have HC := Lib.hid hcalls
  have HRN := Lib.hid hRN
  clear hcalls hRN
  go_enter Try.func3, Try.ntmps3
  go_wp2_with fail
  (with_reducible refine hN.mono ?_)
  rintro e w1 ⟨L, rfl, hD, hf, hK⟩
  have hr := HRN.out w1 L.own hD.lt
  clear hN
  go_wp2_with fail
  (with_reducible refine hr.mono ?_)
  rintro e w2 ⟨T, rfl, hT, hTo, hK2⟩
  have hD2 := hD.keep hK2 (by simp)
  have hK3 := hK.trans hK2
  have hsz := hK.size
  have hTf : ∀ k ∈ T.own, w.heap.size ≤ k := fun k hk => by have := (hTo k hk).1; omega
  have hTl : ∀ k ∈ T.own, k < w2.heap.size := fun k hk => (hTo k hk).2
  have hown : ∀ k ∈ L.own ++ T.own, w.heap.size ≤ k := fun k hk => by
    rcases List.mem_append.1 hk with h | h
    · exact hf k h
    · exact hTf k h
  have HOWN := Lib.hid hown
  clear hr hTo hD hK hK2 hsz hf hTf hown HRN
  go_wp2_with fail
  go_loopw [7] (fun x wr => PlRel w L T L.own len1 80 x wr) (fun x _ => 80 - (intOf x).toNat)
  case atStart => exact ⟨0, _, rfl, by omega, by omega, hD2, hT, by simp [ofS], by simp [ofS], hTl, hK3⟩
  case round =>
    obtain ⟨i, S, rfl, hi1, hi2, hD3, hT3, s0, s1, hTl3, hK4⟩ := hrel
    clear hD2 hT hTl hK3
    by_cases hlt : i < len1 ∧ i < 80
    · obtain ⟨hl, h60⟩ := hlt
      obtain ⟨b, o, rfl, hb, hat⟩ := HC.out (by omega)
      obtain ⟨c, hc⟩ := hat i hl
      have hc' := hc.keep hK4
      have c0 := hc'.c0
      have c1 := hc'.c1
      have c2 := hc'.c2
      have c3 := hc'.c3
      have hdo := do_any wr L T L.own (fun _ h => h) S hD3 hT3 hTl3 c s0 (by omega) hc.t0 hc.t1 (hc.pk.lift hK4 HOWN.out) hc.pb
      have e1 := doS_steps S c
      clear hat HC
      have hl' : (i : Int) < (len1 : Int) := by omega
      have h60' : (i : Int) < 80 := by omega
      go_wp2_with fail
      (with_reducible refine hdo.mono ?_)
      rintro e w3 ⟨rfl, hD5, hT5, hK5⟩
      have hK6 := hK4.into hK5 HOWN.out
      have hTl5 : ∀ k ∈ T.own, k < w3.heap.size := fun k hk => Nat.lt_of_lt_of_le (hTl3 k hk) hK5.size
      generalize doS S c = S' at *
      clear hdo hD3 hT3 hK5 hTl3
      go_wp2_with fail
      exact ⟨⟨i + 1, S', by go_num, by omega, by omega, hD5, hT5, by omega, by omega, hTl5, hK6⟩, by simp [intOf]; omega⟩
    · by_cases hl : i < len1
      · have hl' : (i : Int) < (len1 : Int) := by omega
        have h60 : decide ((i : Int) < 80) = false := by simp; omega
        have hli := like_any wr L T L.own S hD3 hT3
        clear hlt HC
        go_wp2_with fail
        (with_reducible refine hli.mono ?_)
        rintro e w4 ⟨rfl, hK5⟩
        clear hli
        go_wp2_with fail
        (with_reducible refine (awake_any w4).mono ?_)
        rintro e w5 ⟨rfl, hK6⟩
        go_wp2
        go_ret
        exact ⟨rfl, (hK4.trans hK5).trans hK6⟩
      · have hl' : decide ((i : Int) < (len1 : Int)) = false := by simp; omega
        have hl2 : decide (i < len1) = false := by simp; omega
        have hli := like_any wr L T L.own S hD3 hT3
        clear hlt HC
        go_wp2_with fail
        (with_reducible refine hli.mono ?_)
        rintro e w4 ⟨rfl, hK5⟩
        clear hli
        go_wp2_with fail
        (with_reducible refine (awake_any w4).mono ?_)
        rintro e w5 ⟨rfl, hK6⟩
        go_wp2
        go_ret
        exact ⟨rfl, (hK4.trans hK5).trans hK6⟩

theorem walk_plays (a0 : Int) (a1 : Option Addr) (len1 cap1 : Nat) (w : World) (h1 : IsCalls w a1 len1 cap1) :
    Calls Try.prog 3 #[.int .i64 a0, .slice a1 len1 cap1] w fun e w' => e = .returned (.bool true) ∧ Keep [] w w' := by
  by_cases hg : 60 < a0
  · exact plays_great a0 60 a1 len1 cap1 w h1 hg (new_any w 60) (fun W D hD => rnew_pos W 60 D hD (by omega) (by omega))
  · by_cases h0 : 0 < a0
    · obtain ⟨n, rfl⟩ := Int.eq_ofNat_of_zero_le (show 0 ≤ a0 by omega)
      refine plays_small n n a1 len1 cap1 w h1 (by omega) ?_ (fun W D hD => rnew_pos W n D hD (by omega) (by omega))
      have := new_any w n
      have e : newN (n : Int) = n := by unfold newN; omega
      rw [e] at this
      exact this
    · refine plays_small a0 0 a1 len1 cap1 w h1 (by omega) ?_ (fun W D hD => rnew_zero W a0 D hD (by omega))
      have := new_any w a0
      have e : newN a0 = 0 := by unfold newN; omega
      rw [e] at this
      exact this
end Go.Proofs.Ytjicfjnkammmcaa
