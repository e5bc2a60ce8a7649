/-
  NvmCopies, walked. No conditions.
-/
import Derived.Test.YtjicfjnkammmcaaRef8
namespace Go.Proofs.Ytjicfjnkammmcaa
open Go.RowKit Go.Flo

def CpRel (w : World) (L : Loc) (T : TLoc) (len : Nat) (x : Value) (wr : World) : Prop :=
  ∃ (i : Nat) (S : St), x = .int .i64 i ∧ i ≤ len ∧ i ≤ 40 ∧ Dev wr L S ∧ TwinE wr T L.own S ∧ 0 ≤ S.steps ∧ S.steps ≤ i ∧ S.n = 40 ∧ (∀ k ∈ T.own, k < wr.heap.size) ∧ Keep [] w wr

/-- Two pairs of devices side by side. -/
structure Four (w : World) (L L2 : Loc) (T T2 : TLoc) (S S2 : St) : Prop where
  d1 : Dev w L S
  d2 : Dev w L2 S2
  t1 : TwinE w T (L.own ++ L2.own ++ T2.own) S
  t2 : TwinE w T2 (L.own ++ L2.own ++ T.own) S2
  far : ∀ k ∈ L.own, k ∉ L2.own
  l1 : ∀ k ∈ T.own, k < w.heap.size
  l2 : ∀ k ∈ T2.own, k < w.heap.size

theorem Four.keep {w w' : World} {L L2 : Loc} {T T2 : TLoc} {S S2 : St} (h : Four w L L2 T T2 S S2) (hk : Keep [] w w') : Four w' L L2 T T2 S S2 :=
  ⟨h.d1.keep hk (by simp), h.d2.keep hk (by simp), h.t1.keepE hk, h.t2.keepE hk, h.far, fun k hk' => Nat.lt_of_lt_of_le (h.l1 k hk') hk.size, fun k hk' => Nat.lt_of_lt_of_le (h.l2 k hk') hk.size⟩

theorem Four.one {w w' : World} {L L2 : Loc} {T T2 : TLoc} {S S2 S' : St} (h : Four w L L2 T T2 S S2) (hd : Dev w' L S') (ht : TwinE w' T (L.own ++ L2.own ++ T2.own) S') (hk : Keep (L.own ++ T.own) w w') : Four w' L L2 T T2 S' S2 := by
  refine ⟨hd, h.d2.keep hk (fun k hk' hm => ?_), ht, h.t2.keepD hk (fun k hk' => ?_), h.far, fun k hk' => Nat.lt_of_lt_of_le (h.l1 k hk') hk.size, fun k hk' => Nat.lt_of_lt_of_le (h.l2 k hk') hk.size⟩
  · rcases List.mem_append.1 hk' with h1 | h1
    · exact h.far k h1 hm
    · exact h.t1.apart k h1 (List.mem_append_left _ (List.mem_append_right _ hm))
  · rcases List.mem_append.1 hk' with h1 | h1
    · exact List.mem_append_left _ (List.mem_append_left _ h1)
    · exact List.mem_append_right _ h1

theorem Four.two {w w' : World} {L L2 : Loc} {T T2 : TLoc} {S S2 S' : St} (h : Four w L L2 T T2 S S2) (hd : Dev w' L2 S') (ht : TwinE w' T2 (L.own ++ L2.own ++ T.own) S') (hk : Keep (L2.own ++ T2.own) w w') : Four w' L L2 T T2 S S' := by
  refine ⟨h.d1.keep hk (fun k hk' hm => ?_), hd, h.t1.keepD hk (fun k hk' => ?_), ht, h.far, fun k hk' => Nat.lt_of_lt_of_le (h.l1 k hk') hk.size, fun k hk' => Nat.lt_of_lt_of_le (h.l2 k hk') hk.size⟩
  · rcases List.mem_append.1 hk' with h1 | h1
    · exact h.far k hm h1
    · exact h.t2.apart k h1 (List.mem_append_left _ (List.mem_append_left _ hm))
  · rcases List.mem_append.1 hk' with h1 | h1
    · exact List.mem_append_left _ (List.mem_append_right _ h1)
    · exact List.mem_append_right _ h1

def FourRel (w : World) (L L2 : Loc) (T T2 : TLoc) (x : Value) (wr : World) : Prop :=
  ∃ (i : Nat) (S S2 : St), x = .int .i64 i ∧ i ≤ 60 ∧ Four wr L L2 T T2 S S2 ∧ 0 ≤ S.steps ∧ S.steps ≤ 40 + i ∧ 0 ≤ S2.steps ∧ S2.steps ≤ 40 + i ∧ Keep [] w wr

set_option maxRecDepth 100000 in
set_option maxHeartbeats 8000000 in
theorem walk_copies (a0 : Option Addr) (len0 cap0 : Nat) (a1 : Option Addr) (len1 cap1 : Nat) (a2 : Option Addr) (len2 cap2 : Nat) (w : World) (h0 : IsCalls w a0 len0 cap0) (h1 : IsCalls w a1 len1 cap1) (h2 : IsCalls w a2 len2 cap2) :
    Calls Try.prog 4 #[.slice a0 len0 cap0, .slice a1 len1 cap1, .slice a2 len2 cap2] w fun e w' => e = .returned (.bool true) ∧ Keep [] w w' := by
  obtain ⟨hlc0, hcm0, hcalls0⟩ := h0
  obtain ⟨hlc1, hcm1, hcalls1⟩ := h1
  obtain ⟨hlc2, hcm2, hcalls2⟩ := h2
  have HC0 := Lib.hid hcalls0
  have HC1 := Lib.hid hcalls1
  have HC2 := Lib.hid hcalls2
  clear hcalls0 hcalls1 hcalls2
  have hN : Calls Try.prog 11 #[.int .i64 40] w (DevPost (ofS 40 fun _ => 0) w) := new_any w 40
  go_enter Try.func4, Try.ntmps4
  go_wp2_with fail
  (with_reducible refine hN.mono ?_)
  rintro e w1 ⟨L, rfl, hD, hf, hK⟩
  have hr : Calls Try.prog 12 #[.int .i64 40] w1 (RNewPost 40 L.own w1) := rnew_pos w1 40 L.own hD.lt (by omega) (by omega)
  clear hN
  go_wp2_with fail
  (with_reducible refine hr.mono ?_)
  rintro e w2 ⟨T, rfl, hT, hTo, hK2⟩
  have hD2 := hD.keep hK2 (by simp)
  have hK3 := hK.trans hK2
  have hsz := hK.size
  have hTf : ∀ k ∈ T.own, w.heap.size ≤ k := fun k hk => by have := (hTo k hk).1; omega
  have hTl : ∀ k ∈ T.own, k < w2.heap.size := fun k hk => (hTo k hk).2
  have hown : ∀ k ∈ L.own ++ T.own, w.heap.size ≤ k := fun k hk => by
    rcases List.mem_append.1 hk with h | h
    · exact hf k h
    · exact hTf k h
  have HOWN := Lib.hid hown
  clear hr hTo hD hK hK2 hsz hf hTf hown
  go_wp2_with fail
  go_loopw [9] (fun x wr => CpRel w L T len0 x wr) (fun x _ => 40 - (intOf x).toNat)
  case atStart => exact ⟨0, _, rfl, by omega, by omega, hD2, hT, by simp [ofS], by simp [ofS], rfl, hTl, hK3⟩
  case round =>
    obtain ⟨i, S, rfl, hi1, hi2, hD3, hT3, s0, s1, hn40, hTl3, hK4⟩ := hrel
    clear hD2 hT hTl hK3
    have HN40 := Lib.hid hn40
    clear hn40
    by_cases hlt : i < len0 ∧ i < 40
    · obtain ⟨hl, h60⟩ := hlt
      obtain ⟨b, o, rfl, hb, hat⟩ := HC0.out (by omega)
      obtain ⟨c, hc⟩ := hat i hl
      have hc' := hc.keep hK4
      have c0 := hc'.c0
      have c1 := hc'.c1
      have c2 := hc'.c2
      have c3 := hc'.c3
      have hdo := do_any wr L T L.own (fun _ h => h) S hD3 hT3 hTl3 c s0 (by omega) hc.t0 hc.t1 (hc.pk.lift hK4 HOWN.out) hc.pb
      have e1 := doS_steps S c
      have e2 : (doS S c).n = 40 := (doS_n S c).trans HN40.out
      have HE2 := Lib.hid e2
      clear hat HC0 e2
      have hl' : (i : Int) < (len0 : Int) := by omega
      have h60' : (i : Int) < 40 := by omega
      go_wp2_with fail
      (with_reducible refine hdo.mono ?_)
      rintro e w3 ⟨rfl, hD5, hT5, hK5⟩
      have hK6 := hK4.into hK5 HOWN.out
      have hTl5 : ∀ k ∈ T.own, k < w3.heap.size := fun k hk => Nat.lt_of_lt_of_le (hTl3 k hk) hK5.size
      generalize doS S c = S' at *
      clear hdo hD3 hT3 hK5 hTl3
      go_wp2_with fail
      exact ⟨⟨i + 1, S', by go_num, by omega, by omega, hD5, hT5, by omega, by omega, HE2.out, hTl5, hK6⟩, by simp [intOf]; omega⟩
    · by_cases hl : i < len0
      · have hl' : (i : Int) < (len0 : Int) := by omega
        have h60 : decide ((i : Int) < 40) = false := by simp; omega
        clear hlt HC0
        generalize wr = wo at *
        have hn5 : 0 < nl S.n := by rw [HN40.out]; decide
        have hcp := copy_any wo L S hD3
        go_wp2_with fail
        (with_reducible refine hcp.mono ?_)
        rintro e w3 ⟨L2, rfl, hD5, hf2, hK5⟩
        have hl2o := hD5.lt
        have hT5 := hT3.more hK5 (D2 := L2.own) (fun k hk => ⟨hf2 k hk, hl2o k hk⟩) hTl3
        have hTl5 : ∀ k ∈ T.own, k < w3.heap.size := fun k hk => Nat.lt_of_lt_of_le (hTl3 k hk) hK5.size
        have hrc := rcopy_any w3 T _ S hT5 hn5 hTl5
        have hfar : ∀ k ∈ L.own, k ∉ L2.own := fun k hk hm => by have := hf2 k hm; have := hD3.lt k hk; omega
        clear hcp
        go_wp2_with fail
        (with_reducible refine hrc.mono ?_)
        rintro e w4 ⟨T2, rfl, hT6, hTo6, hK6⟩
        have hdis : ∀ k ∈ T2.own, k ∉ T.own := fun k hk hm => by have := (hTo6 k hk).1; have := hTl5 k hm; omega
        have hF : Four w4 L L2 T T2 S S := ⟨(hD3.keep hK5 (by simp)).keep hK6 (by simp), hD5.keep hK6 (by simp), hT5.more hK6 hTo6 hTl5, hT6.beside (hT5.keepE hK6) hn5 hdis, hfar, fun k hk => Nat.lt_of_lt_of_le (hTl5 k hk) hK6.size, fun k hk => (hTo6 k hk).2⟩
        have hK7 := (hK4.trans hK5).trans hK6
        have hszo := hK4.size
        have hsz3 := hK5.size
        have hown2 : ∀ k ∈ L2.own ++ T2.own, w.heap.size ≤ k := fun k hk => by
          rcases List.mem_append.1 hk with h | h
          · have := hf2 k h; omega
          · have := (hTo6 k h).1; omega
        have HOWN2 := Lib.hid hown2
        clear hrc hD3 hT3 hD5 hT5 hT6 hTl3 hTl5 hTo6 hK5 hK6 hK4 hown2 hf2 hl2o hfar hdis hszo hsz3
        go_wp2_with fail
        go_loopw [12] (fun x wr => FourRel w L L2 T T2 x wr) (fun x _ => 60 - (intOf x).toNat)
        case atStart => exact ⟨0, S, S, rfl, by omega, hF, s0, by omega, s0, by omega, hK7⟩
        case round =>
          obtain ⟨j, S5, S6, rfl, hj, hF2, t0, t1, t2, t3, hK8⟩ := hrel
          clear hF hK7 s0 s1 hn5 HN40
          by_cases hs : (j : Int) < wrap64 ((len1 : Int) + (len2 : Int))
          · have hs' : decide ((j : Int) < wrap64 ((len1 : Int) + (len2 : Int))) = true := by simpa using hs
            by_cases h60 : j < 60
            · have h60' : (j : Int) < 60 := by omega
              by_cases hA : j < len1
              · have hA' : (j : Int) < (len1 : Int) := by omega
                obtain ⟨b1, o1, rfl, hb1, hat1⟩ := HC1.out (by omega)
                obtain ⟨c, hc⟩ := hat1 j hA
                have hc' := hc.keep hK8
                have c0 := hc'.c0
                have c1 := hc'.c1
                have c2 := hc'.c2
                have c3 := hc'.c3
                have hdo := do_any wr L T _ (fun k hk => List.mem_append_left _ (List.mem_append_left _ hk)) S5 hF2.d1 hF2.t1 hF2.l1 c t0 (by omega) hc.t0 hc.t1 (hc.pk.lift hK8 HOWN.out) hc.pb
                have e1 := doS_steps S5 c
                clear hat1 hc'
                by_cases hB : j < len2
                · have hB' : (j : Int) < (len2 : Int) := by omega
                  obtain ⟨b2, o2, rfl, hb2, hat2⟩ := HC2.out (by omega)
                  obtain ⟨d, hd⟩ := hat2 j hB
                  clear hat2
                  go_wp2_with fail
                  (with_reducible refine hdo.mono ?_)
                  rintro e w6 ⟨rfl, hD9, hT9, hK9⟩
                  have hF3 := hF2.one hD9 hT9 hK9
                  have hK10 := hK8.into hK9 HOWN.out
                  have hd' := hd.keep hK10
                  have d0 := hd'.c0
                  have d1 := hd'.c1
                  have d2 := hd'.c2
                  have d3 := hd'.c3
                  have hdo2 := do_any w6 L2 T2 _ (fun k hk => List.mem_append_left _ (List.mem_append_right _ hk)) S6 hF3.d2 hF3.t2 hF3.l2 d t2 (by omega) hd.t0 hd.t1 (hd.pk.lift hK10 HOWN2.out) hd.pb
                  have e2 := doS_steps S6 d
                  generalize doS S5 c = S7 at *
                  clear hdo hF2 hD9 hT9 hK9 hd' c0 c1 c2 c3
                  go_wp2_with fail
                  (with_reducible refine hdo2.mono ?_)
                  rintro e w7 ⟨rfl, hD11, hT11, hK11⟩
                  have hF4 := hF3.two hD11 hT11 hK11
                  have hK12 := hK10.into hK11 HOWN2.out
                  generalize doS S6 d = S8 at *
                  clear hdo2 hF3 hD11 hT11 hK11 d0 d1 d2 d3
                  go_wp2_with fail
                  exact ⟨⟨j + 1, S7, S8, by go_num, by omega, hF4, by omega, by omega, by omega, by omega, hK12⟩, by simp [intOf]; omega⟩
                · have hB' : decide ((j : Int) < (len2 : Int)) = false := by simp; omega
                  have hB'' : decide (j < len2) = false := by simp; omega
                  go_wp2_with fail
                  (with_reducible refine hdo.mono ?_)
                  rintro e w6 ⟨rfl, hD9, hT9, hK9⟩
                  have hF3 := hF2.one hD9 hT9 hK9
                  have hK10 := hK8.into hK9 HOWN.out
                  generalize doS S5 c = S7 at *
                  clear hdo hF2 hD9 hT9 hK9 c0 c1 c2 c3
                  go_wp2_with fail
                  exact ⟨⟨j + 1, S7, S6, by go_num, by omega, hF3, by omega, by omega, by omega, by omega, hK10⟩, by simp [intOf]; omega⟩
              · have hA' : decide ((j : Int) < (len1 : Int)) = false := by simp; omega
                have hA'' : decide (j < len1) = false := by simp; omega
                by_cases hB : j < len2
                · have hB' : (j : Int) < (len2 : Int) := by omega
                  obtain ⟨b2, o2, rfl, hb2, hat2⟩ := HC2.out (by omega)
                  obtain ⟨d, hd⟩ := hat2 j hB
                  have hd' := hd.keep hK8
                  have d0 := hd'.c0
                  have d1 := hd'.c1
                  have d2 := hd'.c2
                  have d3 := hd'.c3
                  have hdo2 := do_any wr L2 T2 _ (fun k hk => List.mem_append_left _ (List.mem_append_right _ hk)) S6 hF2.d2 hF2.t2 hF2.l2 d t2 (by omega) hd.t0 hd.t1 (hd.pk.lift hK8 HOWN2.out) hd.pb
                  have e2 := doS_steps S6 d
                  clear hat2 hd'
                  go_wp2_with fail
                  (with_reducible refine hdo2.mono ?_)
                  rintro e w7 ⟨rfl, hD11, hT11, hK11⟩
                  have hF4 := hF2.two hD11 hT11 hK11
                  have hK12 := hK8.into hK11 HOWN2.out
                  generalize doS S6 d = S8 at *
                  clear hdo2 hF2 hD11 hT11 hK11 d0 d1 d2 d3
                  go_wp2_with fail
                  exact ⟨⟨j + 1, S5, S8, by go_num, by omega, hF4, by omega, by omega, by omega, by omega, hK12⟩, by simp [intOf]; omega⟩
                · have hB' : decide ((j : Int) < (len2 : Int)) = false := by simp; omega
                  have hB'' : decide (j < len2) = false := by simp; omega
                  have hs2 : (j : Int) < (len1 : Int) + (len2 : Int) := by unfold wrap64 at hs; omega
                  go_wp2_with fail
                  exact ⟨⟨j + 1, S5, S6, by go_num, by omega, hF2, by omega, by omega, by omega, by omega, hK8⟩, by simp [intOf]; omega⟩
            · have h60' : decide ((j : Int) < 60) = false := by simp; omega
              have hli := like_any wr L T _ S5 hF2.d1 hF2.t1
              go_wp2_with fail
              (with_reducible refine hli.mono ?_)
              rintro e w8 ⟨rfl, hK13⟩
              have hF5 := hF2.keep hK13
              have hli2 := like_any w8 L2 T2 _ S6 hF5.d2 hF5.t2
              clear hli hF2
              go_wp2_with fail
              (with_reducible refine hli2.mono ?_)
              rintro e w9 ⟨rfl, hK14⟩
              clear hli2 hF5
              go_wp2_with fail
              (with_reducible refine (awake_any w9).mono ?_)
              rintro e w10 ⟨rfl, hK15⟩
              go_wp2
              go_ret
              exact ⟨rfl, ((hK8.trans hK13).trans hK14).trans hK15⟩
          · have hs' : decide ((j : Int) < wrap64 ((len1 : Int) + (len2 : Int))) = false := by simpa using hs
            have hli := like_any wr L T _ S5 hF2.d1 hF2.t1
            go_wp2_with fail
            (with_reducible refine hli.mono ?_)
            rintro e w8 ⟨rfl, hK13⟩
            have hF5 := hF2.keep hK13
            have hli2 := like_any w8 L2 T2 _ S6 hF5.d2 hF5.t2
            clear hli hF2
            go_wp2_with fail
            (with_reducible refine hli2.mono ?_)
            rintro e w9 ⟨rfl, hK14⟩
            clear hli2 hF5
            go_wp2_with fail
            (with_reducible refine (awake_any w9).mono ?_)
            rintro e w10 ⟨rfl, hK15⟩
            go_wp2
            go_ret
            exact ⟨rfl, ((hK8.trans hK13).trans hK14).trans hK15⟩
      · have hl' : decide ((i : Int) < (len0 : Int)) = false := by simp; omega
        have hl2 : decide (i < len0) = false := by simp; omega
        clear hlt HC0
        generalize wr = wo at *
        have hn5 : 0 < nl S.n := by rw [HN40.out]; decide
        have hcp := copy_any wo L S hD3
        go_wp2_with fail
        (with_reducible refine hcp.mono ?_)
        rintro e w3 ⟨L2, rfl, hD5, hf2, hK5⟩
        have hl2o := hD5.lt
        have hT5 := hT3.more hK5 (D2 := L2.own) (fun k hk => ⟨hf2 k hk, hl2o k hk⟩) hTl3
        have hTl5 : ∀ k ∈ T.own, k < w3.heap.size := fun k hk => Nat.lt_of_lt_of_le (hTl3 k hk) hK5.size
        have hrc := rcopy_any w3 T _ S hT5 hn5 hTl5
        have hfar : ∀ k ∈ L.own, k ∉ L2.own := fun k hk hm => by have := hf2 k hm; have := hD3.lt k hk; omega
        clear hcp
        go_wp2_with fail
        (with_reducible refine hrc.mono ?_)
        rintro e w4 ⟨T2, rfl, hT6, hTo6, hK6⟩
        have hdis : ∀ k ∈ T2.own, k ∉ T.own := fun k hk hm => by have := (hTo6 k hk).1; have := hTl5 k hm; omega
        have hF : Four w4 L L2 T T2 S S := ⟨(hD3.keep hK5 (by simp)).keep hK6 (by simp), hD5.keep hK6 (by simp), hT5.more hK6 hTo6 hTl5, hT6.beside (hT5.keepE hK6) hn5 hdis, hfar, fun k hk => Nat.lt_of_lt_of_le (hTl5 k hk) hK6.size, fun k hk => (hTo6 k hk).2⟩
        have hK7 := (hK4.trans hK5).trans hK6
        have hszo := hK4.size
        have hsz3 := hK5.size
        have hown2 : ∀ k ∈ L2.own ++ T2.own, w.heap.size ≤ k := fun k hk => by
          rcases List.mem_append.1 hk with h | h
          · have := hf2 k h; omega
          · have := (hTo6 k h).1; omega
        have HOWN2 := Lib.hid hown2
        clear hrc hD3 hT3 hD5 hT5 hT6 hTl3 hTl5 hTo6 hK5 hK6 hK4 hown2 hf2 hl2o hfar hdis hszo hsz3
        go_wp2_with fail
        go_loopw [12] (fun x wr => FourRel w L L2 T T2 x wr) (fun x _ => 60 - (intOf x).toNat)
        case atStart => exact ⟨0, S, S, rfl, by omega, hF, s0, by omega, s0, by omega, hK7⟩
        case round =>
          obtain ⟨j, S5, S6, rfl, hj, hF2, t0, t1, t2, t3, hK8⟩ := hrel
          clear hF hK7 s0 s1 hn5 HN40
          by_cases hs : (j : Int) < wrap64 ((len1 : Int) + (len2 : Int))
          · have hs' : decide ((j : Int) < wrap64 ((len1 : Int) + (len2 : Int))) = true := by simpa using hs
            by_cases h60 : j < 60
            · have h60' : (j : Int) < 60 := by omega
              by_cases hA : j < len1
              · have hA' : (j : Int) < (len1 : Int) := by omega
                obtain ⟨b1, o1, rfl, hb1, hat1⟩ := HC1.out (by omega)
                obtain ⟨c, hc⟩ := hat1 j hA
                have hc' := hc.keep hK8
                have c0 := hc'.c0
                have c1 := hc'.c1
                have c2 := hc'.c2
                have c3 := hc'.c3
                have hdo := do_any wr L T _ (fun k hk => List.mem_append_left _ (List.mem_append_left _ hk)) S5 hF2.d1 hF2.t1 hF2.l1 c t0 (by omega) hc.t0 hc.t1 (hc.pk.lift hK8 HOWN.out) hc.pb
                have e1 := doS_steps S5 c
                clear hat1 hc'
                by_cases hB : j < len2
                · have hB' : (j : Int) < (len2 : Int) := by omega
                  obtain ⟨b2, o2, rfl, hb2, hat2⟩ := HC2.out (by omega)
                  obtain ⟨d, hd⟩ := hat2 j hB
                  clear hat2
                  go_wp2_with fail
                  (with_reducible refine hdo.mono ?_)
                  rintro e w6 ⟨rfl, hD9, hT9, hK9⟩
                  have hF3 := hF2.one hD9 hT9 hK9
                  have hK10 := hK8.into hK9 HOWN.out
                  have hd' := hd.keep hK10
                  have d0 := hd'.c0
                  have d1 := hd'.c1
                  have d2 := hd'.c2
                  have d3 := hd'.c3
                  have hdo2 := do_any w6 L2 T2 _ (fun k hk => List.mem_append_left _ (List.mem_append_right _ hk)) S6 hF3.d2 hF3.t2 hF3.l2 d t2 (by omega) hd.t0 hd.t1 (hd.pk.lift hK10 HOWN2.out) hd.pb
                  have e2 := doS_steps S6 d
                  generalize doS S5 c = S7 at *
                  clear hdo hF2 hD9 hT9 hK9 hd' c0 c1 c2 c3
                  go_wp2_with fail
                  (with_reducible refine hdo2.mono ?_)
                  rintro e w7 ⟨rfl, hD11, hT11, hK11⟩
                  have hF4 := hF3.two hD11 hT11 hK11
                  have hK12 := hK10.into hK11 HOWN2.out
                  generalize doS S6 d = S8 at *
                  clear hdo2 hF3 hD11 hT11 hK11 d0 d1 d2 d3
                  go_wp2_with fail
                  exact ⟨⟨j + 1, S7, S8, by go_num, by omega, hF4, by omega, by omega, by omega, by omega, hK12⟩, by simp [intOf]; omega⟩
                · have hB' : decide ((j : Int) < (len2 : Int)) = false := by simp; omega
                  have hB'' : decide (j < len2) = false := by simp; omega
                  go_wp2_with fail
                  (with_reducible refine hdo.mono ?_)
                  rintro e w6 ⟨rfl, hD9, hT9, hK9⟩
                  have hF3 := hF2.one hD9 hT9 hK9
                  have hK10 := hK8.into hK9 HOWN.out
                  generalize doS S5 c = S7 at *
                  clear hdo hF2 hD9 hT9 hK9 c0 c1 c2 c3
                  go_wp2_with fail
                  exact ⟨⟨j + 1, S7, S6, by go_num, by omega, hF3, by omega, by omega, by omega, by omega, hK10⟩, by simp [intOf]; omega⟩
              · have hA' : decide ((j : Int) < (len1 : Int)) = false := by simp; omega
                have hA'' : decide (j < len1) = false := by simp; omega
                by_cases hB : j < len2
                · have hB' : (j : Int) < (len2 : Int) := by omega
                  obtain ⟨b2, o2, rfl, hb2, hat2⟩ := HC2.out (by omega)
                  obtain ⟨d, hd⟩ := hat2 j hB
                  have hd' := hd.keep hK8
                  have d0 := hd'.c0
                  have d1 := hd'.c1
                  have d2 := hd'.c2
                  have d3 := hd'.c3
                  have hdo2 := do_any wr L2 T2 _ (fun k hk => List.mem_append_left _ (List.mem_append_right _ hk)) S6 hF2.d2 hF2.t2 hF2.l2 d t2 (by omega) hd.t0 hd.t1 (hd.pk.lift hK8 HOWN2.out) hd.pb
                  have e2 := doS_steps S6 d
                  clear hat2 hd'
                  go_wp2_with fail
                  (with_reducible refine hdo2.mono ?_)
                  rintro e w7 ⟨rfl, hD11, hT11, hK11⟩
                  have hF4 := hF2.two hD11 hT11 hK11
                  have hK12 := hK8.into hK11 HOWN2.out
                  generalize doS S6 d = S8 at *
                  clear hdo2 hF2 hD11 hT11 hK11 d0 d1 d2 d3
                  go_wp2_with fail
                  exact ⟨⟨j + 1, S5, S8, by go_num, by omega, hF4, by omega, by omega, by omega, by omega, hK12⟩, by simp [intOf]; omega⟩
                · have hB' : decide ((j : Int) < (len2 : Int)) = false := by simp; omega
                  have hB'' : decide (j < len2) = false := by simp; omega
                  have hs2 : (j : Int) < (len1 : Int) + (len2 : Int) := by unfold wrap64 at hs; omega
                  go_wp2_with fail
                  exact ⟨⟨j + 1, S5, S6, by go_num, by omega, hF2, by omega, by omega, by omega, by omega, hK8⟩, by simp [intOf]; omega⟩
            · have h60' : decide ((j : Int) < 60) = false := by simp; omega
              have hli := like_any wr L T _ S5 hF2.d1 hF2.t1
              go_wp2_with fail
              (with_reducible refine hli.mono ?_)
              rintro e w8 ⟨rfl, hK13⟩
              have hF5 := hF2.keep hK13
              have hli2 := like_any w8 L2 T2 _ S6 hF5.d2 hF5.t2
              clear hli hF2
              go_wp2_with fail
              (with_reducible refine hli2.mono ?_)
              rintro e w9 ⟨rfl, hK14⟩
              clear hli2 hF5
              go_wp2_with fail
              (with_reducible refine (awake_any w9).mono ?_)
              rintro e w10 ⟨rfl, hK15⟩
              go_wp2
              go_ret
              exact ⟨rfl, ((hK8.trans hK13).trans hK14).trans hK15⟩
          · have hs' : decide ((j : Int) < wrap64 ((len1 : Int) + (len2 : Int))) = false := by simpa using hs
            have hli := like_any wr L T _ S5 hF2.d1 hF2.t1
            go_wp2_with fail
            (with_reducible refine hli.mono ?_)
            rintro e w8 ⟨rfl, hK13⟩
            have hF5 := hF2.keep hK13
            have hli2 := like_any w8 L2 T2 _ S6 hF5.d2 hF5.t2
            clear hli hF2
            go_wp2_with fail
            (with_reducible refine hli2.mono ?_)
            rintro e w9 ⟨rfl, hK14⟩
            clear hli2 hF5
            go_wp2_with fail
            (with_reducible refine (awake_any w9).mono ?_)
            rintro e w10 ⟨rfl, hK15⟩
            go_wp2
            go_ret
            exact ⟨rfl, ((hK8.trans hK13).trans hK14).trans hK15⟩
end Go.Proofs.Ytjicfjnkammmcaa
