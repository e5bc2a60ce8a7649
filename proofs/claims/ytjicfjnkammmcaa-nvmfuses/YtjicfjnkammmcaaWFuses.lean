/-
  NvmFuses, walked. No conditions.
-/
import Derived.Test.YtjicfjnkammmcaaArgs
namespace Go.Proofs.Ytjicfjnkammmcaa
open Go.RowKit Go.Flo

/-- The first lines: a number below 30. -/
theorem fuse_num (x : Int) : ∃ q : Nat, q < 30 ∧ (IntKind.u64.wrap x).tmod 30 = (q : Int) := by
  rw [IntKind.wrap_u64, Int.tmod_eq_emod_of_nonneg (by omega)]
  exact ⟨((x % 18446744073709551616) % 30).toNat, by omega, by omega⟩

/-- What is asked of a step by its answer alone. -/
def Stepped (L : Loc) (S : St) (w : World) (e : Ending) (w' : World) : Prop :=
  ∃ (S' : St) (E : Int), e = .returned (.int .i64 E) ∧ Dev w' L S' ∧ Keep L.own w w' ∧ S'.n = S.n ∧ S'.steps = S.steps + 1 ∧ S'.off = (stepS S).off ∧ S'.fuse = (stepS S).fuse ∧
    ((stepS S).off = true → E = 7) ∧ ((stepS S).off = false → (E != 7) = true ∧ (E == 7) = false)

theorem ans_cases (o b : Bool) : (o = true → ans o b = 7) ∧ (o = false → (ans o b != 7) = true ∧ (ans o b == 7) = false) := by
  cases o <;> cases b <;> simp [ans]

theorem store_steps (w : World) (L : Loc) (S : St) (h : Dev w L S) (x v : Int) (s0 : 0 ≤ S.steps) (s1 : S.steps < 1000000) :
    Calls Try.prog 21 #[.pointer (some ⟨L.d, 0, none⟩), .int .i64 x, .int .u64 v] w (Stepped L S w) := by
  refine (store_any w L S h x v s0 s1).mono ?_
  rintro e w' ⟨rfl, hD, hK⟩
  refine ⟨_, _, rfl, hD, hK, ?_, ?_, ?_, ?_, ans_cases _ _⟩ <;> (unfold storeS; split <;> rfl)

theorem flush_steps (w : World) (L : Loc) (S : St) (h : Dev w L S) (x : Int) (s0 : 0 ≤ S.steps) (s1 : S.steps < 1000000) :
    Calls Try.prog 22 #[.pointer (some ⟨L.d, 0, none⟩), .int .i64 x] w (Stepped L S w) := by
  refine (flush_any w L S h x s0 s1).mono ?_
  rintro e w' ⟨rfl, hD, hK⟩
  refine ⟨_, _, rfl, hD, hK, ?_, ?_, ?_, ?_, ans_cases _ _⟩ <;> (unfold flushS; split <;> rfl)

theorem fence_steps (w : World) (L : Loc) (S : St) (h : Dev w L S) (s0 : 0 ≤ S.steps) (s1 : S.steps < 1000000) :
    Calls Try.prog 23 #[.pointer (some ⟨L.d, 0, none⟩)] w (Stepped L S w) := by
  refine (fence_any w L S h s0 s1).mono ?_
  rintro e w' ⟨rfl, hD, hK⟩
  refine ⟨_, _, rfl, hD, hK, ?_, ?_, ?_, ?_, ans_cases _ _⟩ <;> (unfold fenceS; split <;> rfl)

def FusesRel (w : World) (L : Loc) (q len : Nat) (x y : Value) (wr : World) : Prop :=
  ∃ (k i : Nat) (S : St), x = .int .i64 k ∧ y = .int .i64 i ∧ i ≤ len ∧ i ≤ 60 ∧ k ≤ i ∧ Dev wr L S ∧ S.steps = k ∧ S.n = 24 ∧ S.off = decide (q + 1 ≤ k) ∧ S.fuse = ((q + 1 - k : Nat) : Int) ∧ Keep [] w wr

theorem fuses_next {S S' : St} {q k : Nat} (h1 : S.off = decide (q + 1 ≤ k)) (h2 : S.fuse = ((q + 1 - k : Nat) : Int)) (h3 : S'.off = (stepS S).off) (h4 : S'.fuse = (stepS S).fuse) :
    S'.off = decide (q + 1 ≤ k + 1) ∧ S'.fuse = ((q + 1 - (k + 1) : Nat) : Int) := by
  rw [h3, h4]
  dsimp only [stepS]
  rw [h1, h2]
  constructor
  · rw [Bool.eq_iff_iff]
    simp
    omega
  · split <;> omega

set_option maxRecDepth 100000 in
set_option maxHeartbeats 4000000 in
theorem walk_fuses (a0 : Option Addr) (len0 cap0 : Nat) (a1 : Int) (w : World) (h0 : IsCalls w a0 len0 cap0) :
    Calls Try.prog 7 #[.slice a0 len0 cap0, .int .i64 a1] w fun e w' => e = .returned (.bool true) ∧ Keep [] w w' := by
  obtain ⟨hlc, hcm, hcalls⟩ := h0
  obtain ⟨q, hq, hq2⟩ := fuse_num a1
  have HC := Lib.hid hcalls
  clear hcalls
  go_enter Try.func7, Try.ntmps7
  go_wp2_with fail
  have hnew : Calls Try.prog 11 #[.int .i64 24] w (DevPost (ofS 24 fun _ => 0) w) := new_any w 24
  (with_reducible refine hnew.mono ?_)
  rintro e w1 ⟨L, rfl, hD, hf, hK⟩
  have hfu := fuse_any w1 L _ hD ((q : Int) + 1) (by omega)
  clear hnew hq2
  go_wp2_with fail
  (with_reducible refine hfu.mono ?_)
  rintro e w2 ⟨rfl, hD2, hK2⟩
  have hK3 : Keep [] w w2 := hK.into hK2 hf
  clear hfu hD hK hK2
  go_wp2_with fail
  go_loopw [6, 7] (fun x y wr => FusesRel w L q len0 x y wr) (fun _ y _ => 60 - (intOf y).toNat)
  case atStart => exact ⟨0, 0, _, rfl, rfl, by omega, by omega, by omega, hD2, rfl, rfl, by simp [fuseS, ofS], by simp [fuseS]; omega, hK3⟩
  case round =>
    obtain ⟨k, i, S, rfl, rfl, hi1, hi2, hki, hD3, hs, hn, ho, hfu, hK4⟩ := hrel
    clear hD2 hK3
    have HO := Lib.hid (And.intro ho hfu)
    have HS := Lib.hid hs
    have HNN := Lib.hid hn
    clear ho hfu hn
    have s0 : 0 ≤ S.steps := by omega
    have s1 : S.steps < 1000000 := by omega
    clear hs
    by_cases hlt : i < len0 ∧ i < 60
    · obtain ⟨hl, h60⟩ := hlt
      obtain ⟨b, o, rfl, hb, hat⟩ := HC.out (by omega)
      obtain ⟨c, hc⟩ := hat i hl
      have hc' := hc.keep hK4
      have c0 := hc'.c0
      have c1 := hc'.c1
      have c2 := hc'.c2
      have HA := Lib.hid hat
      clear hat
      have hl' : (i : Int) < (len0 : Int) := by omega
      have h60' : (i : Int) < 60 := by omega
      by_cases d0 : c.d = 0
      · rw [d0] at c0
        go_wp2_with fail
        go_still_tail 11, (by kernel_rfl)
        change wpList _ _ _ _ _ wr.drew
        have hst := store_steps wr.drew L S (hD3.keep (own := []) (Keep.drew _) (by simp)) c.t c.u s0 s1
        have hKb : Keep [] w wr.drew := hK4.trans (Keep.drew _)
        go_wp2_with fail
        (with_reducible refine hst.mono ?_)
        rintro e w3 ⟨S', E, rfl, hD4, hK5, e1, e2, e3, e4, e5, e6⟩
        have hK6 : Keep [] w w3 := hKb.into hK5 hf
        obtain ⟨o1, o2⟩ := fuses_next HO.out.1 HO.out.2 e3 e4
        rw [← e3] at e5 e6
        rw [o1] at e5 e6
        have hSt := steps_any w3 L S' hD4
        rw [e2, HS.out] at hSt
        have hDn := down_any w3 L S' hD4
        rw [o1] at hDn
        have HR := Lib.hid (And.intro e2 (And.intro e1 (And.intro o1 o2)))
        clear e1 e2 e3 e4 o1 o2 hst hK5 hD3
        by_cases hle : q + 1 ≤ k + 1
        · have e7 := e5 (decide_eq_true hle)
          subst e7
          rw [decide_eq_true hle] at hDn
          have hge : decide ((q : Int) + 1 ≤ (k : Int) + 1) = true := by simp; omega
          have hge2 : decide ((k : Int) + 1 < (q : Int) + 1) = false := by simp; omega
          clear e5 e6
          go_wp2_with fail
          (with_reducible refine hSt.mono ?_)
          rintro e w' ⟨rfl, rfl⟩
          go_wp2_with fail
          (with_reducible refine hDn.mono ?_)
          rintro e w' ⟨rfl, rfl⟩
          go_wp2_with fail
          all_goals
            first
            | (exfalso; omega)
            | (obtain ⟨r1, r2, r3, r4⟩ := HR.out
               have hs' := HS.out
               have hn' := HNN.out
               exact ⟨⟨k + 1, i + 1, S', by go_num, by go_num, by omega, by omega, by omega, hD4, by rw [r1, hs']; go_num, r2.trans hn', r3, r4, hK6⟩, by simp [intOf]; omega⟩)
        · obtain ⟨e7, e8⟩ := e6 (decide_eq_false hle)
          rw [decide_eq_false hle] at hDn
          have hge : decide ((q : Int) + 1 ≤ (k : Int) + 1) = false := by simp; omega
          have hge2 : decide ((k : Int) + 1 < (q : Int) + 1) = true := by simp; omega
          clear e5 e6
          go_wp2_with fail
          (with_reducible refine hSt.mono ?_)
          rintro e w' ⟨rfl, rfl⟩
          go_wp2_with fail
          (with_reducible refine hDn.mono ?_)
          rintro e w' ⟨rfl, rfl⟩
          go_wp2_with fail
          all_goals
            first
            | (exfalso; omega)
            | (obtain ⟨r1, r2, r3, r4⟩ := HR.out
               have hs' := HS.out
               have hn' := HNN.out
               exact ⟨⟨k + 1, i + 1, S', by go_num, by go_num, by omega, by omega, by omega, hD4, by rw [r1, hs']; go_num, r2.trans hn', r3, r4, hK6⟩, by simp [intOf]; omega⟩)
      · by_cases d1 : c.d = 1
        · rw [d1] at c0
          have hst := flush_steps wr L S hD3 c.t s0 s1
          have hKb := hK4
          go_wp2_with fail
          (with_reducible refine hst.mono ?_)
          rintro e w3 ⟨S', E, rfl, hD4, hK5, e1, e2, e3, e4, e5, e6⟩
          have hK6 : Keep [] w w3 := hKb.into hK5 hf
          obtain ⟨o1, o2⟩ := fuses_next HO.out.1 HO.out.2 e3 e4
          rw [← e3] at e5 e6
          rw [o1] at e5 e6
          have hSt := steps_any w3 L S' hD4
          rw [e2, HS.out] at hSt
          have hDn := down_any w3 L S' hD4
          rw [o1] at hDn
          have HR := Lib.hid (And.intro e2 (And.intro e1 (And.intro o1 o2)))
          clear e1 e2 e3 e4 o1 o2 hst hK5 hD3
          by_cases hle : q + 1 ≤ k + 1
          · have e7 := e5 (decide_eq_true hle)
            subst e7
            rw [decide_eq_true hle] at hDn
            have hge : decide ((q : Int) + 1 ≤ (k : Int) + 1) = true := by simp; omega
            have hge2 : decide ((k : Int) + 1 < (q : Int) + 1) = false := by simp; omega
            clear e5 e6
            go_wp2_with fail
            (with_reducible refine hSt.mono ?_)
            rintro e w' ⟨rfl, rfl⟩
            go_wp2_with fail
            (with_reducible refine hDn.mono ?_)
            rintro e w' ⟨rfl, rfl⟩
            go_wp2_with fail
            all_goals
              first
              | (exfalso; omega)
              | (obtain ⟨r1, r2, r3, r4⟩ := HR.out
                 have hs' := HS.out
                 have hn' := HNN.out
                 exact ⟨⟨k + 1, i + 1, S', by go_num, by go_num, by omega, by omega, by omega, hD4, by rw [r1, hs']; go_num, r2.trans hn', r3, r4, hK6⟩, by simp [intOf]; omega⟩)
          · obtain ⟨e7, e8⟩ := e6 (decide_eq_false hle)
            rw [decide_eq_false hle] at hDn
            have hge : decide ((q : Int) + 1 ≤ (k : Int) + 1) = false := by simp; omega
            have hge2 : decide ((k : Int) + 1 < (q : Int) + 1) = true := by simp; omega
            clear e5 e6
            go_wp2_with fail
            (with_reducible refine hSt.mono ?_)
            rintro e w' ⟨rfl, rfl⟩
            go_wp2_with fail
            (with_reducible refine hDn.mono ?_)
            rintro e w' ⟨rfl, rfl⟩
            go_wp2_with fail
            all_goals
              first
              | (exfalso; omega)
              | (obtain ⟨r1, r2, r3, r4⟩ := HR.out
                 have hs' := HS.out
                 have hn' := HNN.out
                 exact ⟨⟨k + 1, i + 1, S', by go_num, by go_num, by omega, by omega, by omega, hD4, by rw [r1, hs']; go_num, r2.trans hn', r3, r4, hK6⟩, by simp [intOf]; omega⟩)
        · by_cases d2 : c.d = 2
          · rw [d2] at c0
            have hst := fence_steps wr L S hD3 s0 s1
            have hKb := hK4
            go_wp2_with fail
            (with_reducible refine hst.mono ?_)
            rintro e w3 ⟨S', E, rfl, hD4, hK5, e1, e2, e3, e4, e5, e6⟩
            have hK6 : Keep [] w w3 := hKb.into hK5 hf
            obtain ⟨o1, o2⟩ := fuses_next HO.out.1 HO.out.2 e3 e4
            rw [← e3] at e5 e6
            rw [o1] at e5 e6
            have hSt := steps_any w3 L S' hD4
            rw [e2, HS.out] at hSt
            have hDn := down_any w3 L S' hD4
            rw [o1] at hDn
            have HR := Lib.hid (And.intro e2 (And.intro e1 (And.intro o1 o2)))
            clear e1 e2 e3 e4 o1 o2 hst hK5 hD3
            by_cases hle : q + 1 ≤ k + 1
            · have e7 := e5 (decide_eq_true hle)
              subst e7
              rw [decide_eq_true hle] at hDn
              have hge : decide ((q : Int) + 1 ≤ (k : Int) + 1) = true := by simp; omega
              have hge2 : decide ((k : Int) + 1 < (q : Int) + 1) = false := by simp; omega
              clear e5 e6
              go_wp2_with fail
              (with_reducible refine hSt.mono ?_)
              rintro e w' ⟨rfl, rfl⟩
              go_wp2_with fail
              (with_reducible refine hDn.mono ?_)
              rintro e w' ⟨rfl, rfl⟩
              go_wp2_with fail
              all_goals
                first
                | (exfalso; omega)
                | (obtain ⟨r1, r2, r3, r4⟩ := HR.out
                   have hs' := HS.out
                   have hn' := HNN.out
                   exact ⟨⟨k + 1, i + 1, S', by go_num, by go_num, by omega, by omega, by omega, hD4, by rw [r1, hs']; go_num, r2.trans hn', r3, r4, hK6⟩, by simp [intOf]; omega⟩)
            · obtain ⟨e7, e8⟩ := e6 (decide_eq_false hle)
              rw [decide_eq_false hle] at hDn
              have hge : decide ((q : Int) + 1 ≤ (k : Int) + 1) = false := by simp; omega
              have hge2 : decide ((k : Int) + 1 < (q : Int) + 1) = true := by simp; omega
              clear e5 e6
              go_wp2_with fail
              (with_reducible refine hSt.mono ?_)
              rintro e w' ⟨rfl, rfl⟩
              go_wp2_with fail
              (with_reducible refine hDn.mono ?_)
              rintro e w' ⟨rfl, rfl⟩
              go_wp2_with fail
              all_goals
                first
                | (exfalso; omega)
                | (obtain ⟨r1, r2, r3, r4⟩ := HR.out
                   have hs' := HS.out
                   have hn' := HNN.out
                   exact ⟨⟨k + 1, i + 1, S', by go_num, by go_num, by omega, by omega, by omega, hD4, by rw [r1, hs']; go_num, r2.trans hn', r3, r4, hK6⟩, by simp [intOf]; omega⟩)
          · have b0 : (c.d == 0) = false := beq_eq_false_iff_ne.2 d0
            have b1 : (c.d == 1) = false := beq_eq_false_iff_ne.2 d1
            have b2 : (c.d == 2) = false := beq_eq_false_iff_ne.2 d2
            clear d0 d1 d2
            go_wp2_with fail
            have hs' := HS.out
            have hn' := HNN.out
            obtain ⟨r3, r4⟩ := HO.out
            exact ⟨⟨k, i + 1, S, rfl, by go_num, by omega, by omega, by omega, hD3, hs', hn', r3, r4, hK4⟩, by simp [intOf]; omega⟩
    · have hlt' : ¬ ((i : Int) < (len0 : Int) ∧ (i : Int) < 60) := by omega
      have hcr := crash_any wr L S hD3 none 0 0 (fun _ => 0) (Pk.nil _ _)
      by_cases hl : i < len0
      · have hl' : (i : Int) < (len0 : Int) := by omega
        have h60 : decide ((i : Int) < 60) = false := by simp; omega
        clear hlt'
        go_wp2_with fail
        (with_reducible refine hcr.mono ?_)
        rintro e w4 ⟨rfl, hD5, hK5⟩
        have hDn : Calls Try.prog 27 #[.pointer (some ⟨L.d, 0, none⟩)] w4 fun e w' => e = .returned (.bool false) ∧ w4 = w' := down_any w4 L _ hD5
        have hFe : Calls Try.prog 23 #[.pointer (some ⟨L.d, 0, none⟩)] w4 (Did L _ w4 (.int .i64 0)) := fence_any w4 L _ hD5 s0 s1
        clear hcr hD3
        go_wp2_with fail
        (with_reducible refine hDn.mono ?_)
        rintro e w' ⟨rfl, rfl⟩
        go_wp2_with fail
        (with_reducible refine hFe.mono ?_)
        rintro e w5 ⟨rfl, hD6, hK6⟩
        clear hDn hFe
        go_wp2_with fail
        (with_reducible refine (awake_any w5).mono ?_)
        rintro e w6 ⟨rfl, hK7⟩
        go_wp2
        go_ret
        exact ⟨rfl, (hK4.into (hK5.trans hK6) hf).trans hK7⟩
      · have hl' : decide ((i : Int) < (len0 : Int)) = false := by simp; omega
        have hl2 : decide (i < len0) = false := by simp; omega
        clear hlt'
        go_wp2_with fail
        (with_reducible refine hcr.mono ?_)
        rintro e w4 ⟨rfl, hD5, hK5⟩
        have hDn : Calls Try.prog 27 #[.pointer (some ⟨L.d, 0, none⟩)] w4 fun e w' => e = .returned (.bool false) ∧ w4 = w' := down_any w4 L _ hD5
        have hFe : Calls Try.prog 23 #[.pointer (some ⟨L.d, 0, none⟩)] w4 (Did L _ w4 (.int .i64 0)) := fence_any w4 L _ hD5 s0 s1
        clear hcr hD3
        go_wp2_with fail
        (with_reducible refine hDn.mono ?_)
        rintro e w' ⟨rfl, rfl⟩
        go_wp2_with fail
        (with_reducible refine hFe.mono ?_)
        rintro e w5 ⟨rfl, hD6, hK6⟩
        clear hDn hFe
        go_wp2_with fail
        (with_reducible refine (awake_any w5).mono ?_)
        rintro e w6 ⟨rfl, hK7⟩
        go_wp2
        go_ret
        exact ⟨rfl, (hK4.into (hK5.trans hK6) hf).trans hK7⟩
end Go.Proofs.Ytjicfjnkammmcaa
