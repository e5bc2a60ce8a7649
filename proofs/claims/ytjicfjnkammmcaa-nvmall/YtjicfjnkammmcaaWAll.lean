/-
  NvmAll, walked. No conditions.
-/
import Derived.Test.YtjicfjnkammmcaaTwo
namespace Go.Proofs.Ytjicfjnkammmcaa
open Go.RowKit Go.Flo

/-- A row of the call's own that has elements, read off. -/
theorem own_row {w : World} {B n : Nat} {v : Value} {f : Nat → Value} (h : w.ownsRow B 28 1 v n ((List.range n).map f)) (hn : 0 < n) : ∃ g cap, v = .slice (some ⟨g, 0, none⟩) n cap ∧ Row w 28 g n cap f ∧ B ≤ g := by
  obtain ⟨_, h2⟩ := id h
  rcases h2 with ⟨_, h2⟩ | ⟨g, cap, cur, rfl, hg, _⟩
  · omega
  · exact ⟨g, cap, rfl, Row.of_owns h, hg⟩

/-- Five picks 1, made in place. -/
def ones5 (j : Nat) : Int := if j < 5 then 1 else 0
theorem pk5 (w : World) (own : List Nat) (ho : ∀ k ∈ own, k < w.heap.size) : Pk (w.alloc (.cells #[.int .u8 1, .int .u8 1, .int .u8 1, .int .u8 1, .int .u8 1] 5)) own (some ⟨w.heap.size, 0, none⟩) 5 5 ones5 := by
  refine ⟨by omega, by omega, fun j hj => if_neg (by omega), fun _ => ⟨_, rfl, fun hm => by have := ho _ hm; dsimp only at this; omega, by simp, fun j hj => ?_⟩⟩
  have e : (⟨w.heap.size, 0, none⟩ : Addr).add j = ⟨w.heap.size, j, none⟩ := by unfold Addr.add; split <;> simp_all
  rw [e, (Blk.new w 5 _).cell j]
  match j, hj with
  | 0, _ => rfl
  | 1, _ => rfl
  | 2, _ => rfl
  | 3, _ => rfl
  | 4, _ => rfl

def AllRel (w : World) (L : Loc) (len : Nat) (x : Value) (wr : World) : Prop :=
  ∃ (i : Nat) (S : St), x = .int .i64 i ∧ i ≤ len ∧ i ≤ 40 ∧ Dev wr L S ∧ 0 ≤ S.steps ∧ S.steps ≤ i ∧ S.n = 40 ∧ Calm S ∧ Keep [] w wr

def NowRel (w2 : World) (f : Nat → Int) (x y : Value) (wr : World) : Prop :=
  ∃ j : Nat, x = .int .i64 j ∧ j ≤ 40 ∧ wr.ownsRow w2.heap.size 28 1 y j ((List.range j).map (u64 f)) ∧ Keep [] w2 wr

set_option maxRecDepth 100000 in
set_option maxHeartbeats 4000000 in
theorem walk_all (a0 : Option Addr) (len0 cap0 : Nat) (a1 : Option Addr) (len1 cap1 : Nat) (p : Nat → Int) (w : World) (h0 : IsCalls w a0 len0 cap0) (h1 : Pk w [] a1 len1 cap1 p) :
    Calls Try.prog 10 #[.slice a0 len0 cap0, .slice a1 len1 cap1] w fun e w' => e = .returned (.bool true) ∧ Keep [] w w' := by
  obtain ⟨hlc, hcm, hcalls⟩ := h0
  obtain ⟨i0, hi0, hz0, hz1, hz2⟩ := info_parts parts28
  have HC := Lib.hid hcalls
  clear hcalls
  go_enter Try.func10, Try.ntmps10
  go_wp2_with fail
  have hnew : Calls Try.prog 11 #[.int .i64 40] w (DevPost (ofS 40 fun _ => 0) w) := new_any w 40
  (with_reducible refine hnew.mono ?_)
  rintro e w1 ⟨L, rfl, hD, hf, hK⟩
  clear hnew
  go_wp2_with fail
  go_loopw [6] (fun x wr => AllRel w L len0 x wr) (fun x _ => 40 - (intOf x).toNat)
  case atStart => exact ⟨0, _, rfl, by omega, by omega, hD, by simp [ofS], by simp [ofS], rfl, ⟨rfl, rfl⟩, hK⟩
  case round =>
    obtain ⟨i, S, rfl, hi1, hi2, hD3, s0, s1, hn, hcalm, hK4⟩ := hrel
    clear hD hK
    have HNN := Lib.hid hn
    clear hn
    by_cases hlt : i < len0 ∧ i < 40
    · obtain ⟨hl, h60⟩ := hlt
      obtain ⟨b, o, rfl, hb, hat⟩ := HC.out (by omega)
      obtain ⟨c, hc⟩ := hat i hl
      have hc' := hc.keep hK4
      have c0 := hc'.c0
      have c1 := hc'.c1
      have c2 := hc'.c2
      have c3 := hc'.c3
      clear hat HC
      have hl' : (i : Int) < (len0 : Int) := by omega
      have h60' : (i : Int) < 40 := by omega
      by_cases d0 : c.d < 2
      · have hdo := do2_any wr L S hD3 c s0 (by omega)
        go_wp2_with fail
        (with_reducible refine hdo.mono ?_)
        rintro e w3 ⟨rfl, hD5, hK5⟩
        have hK6 := hK4.into hK5 hf
        have e1 := do2_n S c
        have e2 := do2_steps S c
        have e3 := hcalm.do2 c
        have e4 := HNN.out
        generalize do2S S c = S' at *
        have HR := Lib.hid (And.intro e1 (And.intro e2 e4))
        clear e1 e2 e4 hdo hD3 hK5
        go_wp2_with fail
        obtain ⟨r1, r2, r3⟩ := HR.out
        exact ⟨⟨i + 1, S', by go_num, by omega, by omega, hD5, by omega, by omega, r1.trans r3, e3, hK6⟩, by simp [intOf]; omega⟩
      · have d0' : ¬ c.d < 2 := d0
        go_wp2_with fail
        exact ⟨⟨i + 1, S, by go_num, by omega, by omega, hD3, by omega, by omega, HNN.out, hcalm, hK4⟩, by simp [intOf]; omega⟩
    · by_cases hl : i < len0
      · have hl' : (i : Int) < (len0 : Int) := by omega
        have h60 : decide ((i : Int) < 40) = false := by simp; omega
        clear hlt HC
        generalize wr = wo at *
        have hn40 := HNN.out
        have hcalm' := hcalm
        obtain ⟨ho, hfu⟩ := hcalm
        have hload : ∀ (W : World), Dev W L S → ∀ j : Nat, j < 40 → Calls Try.prog 20 #[.pointer (some ⟨L.d, 0, none⟩), .int .i64 j] W fun e w' => e = .returned (.tuple #[.int .u64 (S.now j), .int .i64 0]) ∧ W = w' := by
          intro W hW j hj
          have hl := load_any W L S hW j
          unfold LoadPost loadV at hl
          have hh : hasB S.n (j : Int) = true := by rw [hn40]; simp [hasB]; omega
          rw [hh, ho] at hl
          simpa [ans] using hl
        have HLD := Lib.hid hload
        have hown := hD3.lt
        clear hload hcalm' ho hfu hn40
        have HOW := Lib.hid hown
        clear hown
        go_wp2_with fail
        go_loopw [34, 7] (fun x y w2 => NowRel wo S.now x y w2) (fun x _ _ => 40 - (intOf x).toNat)
        case atStart => exact ⟨0, rfl, by omega, by simpa using World.ownsRow_nil wo wo.heap.size 28 1, Keep.refl _ _⟩
        case round =>
          obtain ⟨j, rfl, hj, hrow, hK5⟩ := hrel
          have HRow := Lib.hid hrow
          clear hrow
          have hD5 := hD3.keep hK5 (by simp)
          have hsz := hK5.size
          by_cases hj40 : j < 40
          · have hj' : (j : Int) < 40 := by omega
            have hld := HLD.out wr hD5 j hj40
            go_wp2_with fail
            (with_reducible refine hld.mono ?_)
            rintro e w' ⟨rfl, rfl⟩
            have hrow := HRow.out
            clear hld
            go_wp2_with (at_builtin; refine wpList_append_own_at _ rfl (.tmp 43) (.tmp 45) 48 rfl wo.heap.size 28 i0 (.int .u64 0) 1 8 Try.underlying48 hi0 hz0 hz1 hz2 rfl (by omega) _ j ((List.range j).map (u64 S.now)) rfl (hrow.alloc _) ⟨wr.heap.size, 0, none⟩ 1 1 [.int .u64 (S.now j)] rfl rfl ?c1 ?c2 ?c3 ?c4 ?c5 ?_)
            case c1 => exact cell_one_new _ _ _
            case c2 => intro u hu; simp at hu; subst hu; rfl
            case c3 => simp [maxLen]; omega
            case c4 => omega
            case c5 => simp; omega
            intro v' w4 hown4 hgrow4 hnil hblk
            have hlt4 := hrow.lt
            have hk4 : Keep [] wo w4 := by
              have k1 : Keep [] wo (wr.alloc _) := hK5.trans (Keep.alloc wr (.cells #[.int .u64 (S.now j)] 28))
              refine ⟨hgrow4.os.trans k1.os, hgrow4.tape.trans k1.tape, hgrow4.output.trans k1.output, Nat.le_trans k1.size hgrow4.size, fun k hk _ => ?_⟩
              rw [hgrow4.block k (Nat.lt_of_lt_of_le hk k1.size) (fun e => by have := (hlt4 k e.symm).1; omega)]
              exact k1.block k hk (by simp)
            have hrow' : w4.ownsRow wo.heap.size 28 1 v' (j + 1) ((List.range (j + 1)).map (u64 S.now)) := by
              rw [List.range_succ, List.map_append]
              exact hown4
            have HR4 := Lib.hid hrow'
            clear hown4 hgrow4 hnil hblk hlt4 hrow hrow' hD5
            go_wp2_with fail
            exact ⟨⟨j + 1, by go_num, by omega, HR4.out, hk4⟩, by simp [intOf]; omega⟩
          · obtain rfl : j = 40 := by omega
            obtain ⟨g, cap, rfl, hR, hg⟩ := own_row HRow.out (by omega)
            have hlo : ∀ k ∈ L.own, k < wr.heap.size := hD5.lt
            have hgo : g ∉ L.own := fun hm => by have := HOW.out g hm; omega
            have hk6 : Keep [] wr (wr.alloc (.cells #[.int .u8 1, .int .u8 1, .int .u8 1, .int .u8 1, .int .u8 1] 5)) := Keep.alloc _ _
            have hcr := crash_any _ L S (hD5.keep hk6 (by simp)) _ 5 5 ones5 (pk5 wr L.own hlo)
            clear HRow HLD
            go_wp2_with fail
            (with_reducible refine hcr.mono ?_)
            rintro e w3 ⟨rfl, hD7, hK7⟩
            have hR3 := (hR.keep hk6 (by simp)).keep hK7 hgo
            have hK3 : Keep [] w w3 := ((hK4.trans hK5).trans hk6).into hK7 hf
            have hw3 := words_any w3 L _ hD7
            have hn40 := HNN.out
            have hfin : ∀ i, i < 40 → fin S ones5 i = S.now i := fun i hi => fin_all (fun j hj => if_pos hj) (by omega) (by omega)
            change Calls Try.prog 28 _ w3 (RowPost 28 S.n (u64 (fin S ones5)) w3) at hw3
            rw [hn40] at hw3
            have HFI := Lib.hid hfin
            have HN4 := Lib.hid hn40
            clear hcr hfin hn40 hR hD5 hD3
            go_wp2_with fail
            (with_reducible refine hw3.mono ?_)
            rintro e w5 ⟨g5, cap5, rfl, hR5, hg5, hk5⟩
            have hR4 := hR3.keep hk5 (by simp)
            have hsa := same_rows w5 28 28 g5 40 cap5 g cap _ _ (by omega) hR5 hR4 HFI.out
            clear hw3 hR5 hR3
            go_wp2_with fail
            (with_reducible refine hsa.mono ?_)
            rintro e w7 ⟨rfl, d7⟩
            have hD8 := (hD7.keep hk5 (by simp)).dr_ d7
            have hR7 := hR4.dr d7
            have hK8 : Keep [] w w7 := (hK3.trans hk5).trans (Keep.dr d7)
            have hcr2 := crash_any w7 L _ hD8 a1 len1 cap1 p (h1.lift hK8 hf)
            clear hsa hD7 hR4 hk5 hK3
            go_wp2_with fail
            (with_reducible refine hcr2.mono ?_)
            rintro e w8 ⟨rfl, hD9, hK9⟩
            have hR8 := hR7.keep hK9 hgo
            have hK10 : Keep [] w w8 := hK8.into hK9 hf
            have hw8 := words_any w8 L _ hD9
            change Calls Try.prog 28 _ w8 (RowPost 28 S.n (u64 (fin (crashS S ones5) p)) w8) at hw8
            rw [HN4.out] at hw8
            clear hcr2 hR7
            go_wp2_with fail
            (with_reducible refine hw8.mono ?_)
            rintro e w9 ⟨g9, cap9, rfl, hR9, hg9, hk9⟩
            have hsa := same_rows w9 28 28 g9 40 cap9 g cap _ _ (by omega) hR9 (hR8.keep hk9 (by simp)) (fun i hi => (fin_again S ones5 p i).trans (HFI.out i hi))
            clear hw8 hR9 hR8
            go_wp2_with fail
            (with_reducible refine hsa.mono ?_)
            rintro e w10 ⟨rfl, d10⟩
            clear hsa
            go_wp2_with fail
            (with_reducible refine (awake_any w10).mono ?_)
            rintro e w11 ⟨rfl, k11⟩
            go_wp2
            go_ret
            exact ⟨rfl, ((hK10.trans hk9).trans (Keep.dr d10)).trans k11⟩
      · have hl' : decide ((i : Int) < (len0 : Int)) = false := by simp; omega
        have hl2 : decide (i < len0) = false := by simp; omega
        clear hlt HC
        generalize wr = wo at *
        have hn40 := HNN.out
        have hcalm' := hcalm
        obtain ⟨ho, hfu⟩ := hcalm
        have hload : ∀ (W : World), Dev W L S → ∀ j : Nat, j < 40 → Calls Try.prog 20 #[.pointer (some ⟨L.d, 0, none⟩), .int .i64 j] W fun e w' => e = .returned (.tuple #[.int .u64 (S.now j), .int .i64 0]) ∧ W = w' := by
          intro W hW j hj
          have hl := load_any W L S hW j
          unfold LoadPost loadV at hl
          have hh : hasB S.n (j : Int) = true := by rw [hn40]; simp [hasB]; omega
          rw [hh, ho] at hl
          simpa [ans] using hl
        have HLD := Lib.hid hload
        have hown := hD3.lt
        clear hload hcalm' ho hfu hn40
        have HOW := Lib.hid hown
        clear hown
        go_wp2_with fail
        go_loopw [34, 7] (fun x y w2 => NowRel wo S.now x y w2) (fun x _ _ => 40 - (intOf x).toNat)
        case atStart => exact ⟨0, rfl, by omega, by simpa using World.ownsRow_nil wo wo.heap.size 28 1, Keep.refl _ _⟩
        case round =>
          obtain ⟨j, rfl, hj, hrow, hK5⟩ := hrel
          have HRow := Lib.hid hrow
          clear hrow
          have hD5 := hD3.keep hK5 (by simp)
          have hsz := hK5.size
          by_cases hj40 : j < 40
          · have hj' : (j : Int) < 40 := by omega
            have hld := HLD.out wr hD5 j hj40
            go_wp2_with fail
            (with_reducible refine hld.mono ?_)
            rintro e w' ⟨rfl, rfl⟩
            have hrow := HRow.out
            clear hld
            go_wp2_with (at_builtin; refine wpList_append_own_at _ rfl (.tmp 43) (.tmp 45) 48 rfl wo.heap.size 28 i0 (.int .u64 0) 1 8 Try.underlying48 hi0 hz0 hz1 hz2 rfl (by omega) _ j ((List.range j).map (u64 S.now)) rfl (hrow.alloc _) ⟨wr.heap.size, 0, none⟩ 1 1 [.int .u64 (S.now j)] rfl rfl ?c1 ?c2 ?c3 ?c4 ?c5 ?_)
            case c1 => exact cell_one_new _ _ _
            case c2 => intro u hu; simp at hu; subst hu; rfl
            case c3 => simp [maxLen]; omega
            case c4 => omega
            case c5 => simp; omega
            intro v' w4 hown4 hgrow4 hnil hblk
            have hlt4 := hrow.lt
            have hk4 : Keep [] wo w4 := by
              have k1 : Keep [] wo (wr.alloc _) := hK5.trans (Keep.alloc wr (.cells #[.int .u64 (S.now j)] 28))
              refine ⟨hgrow4.os.trans k1.os, hgrow4.tape.trans k1.tape, hgrow4.output.trans k1.output, Nat.le_trans k1.size hgrow4.size, fun k hk _ => ?_⟩
              rw [hgrow4.block k (Nat.lt_of_lt_of_le hk k1.size) (fun e => by have := (hlt4 k e.symm).1; omega)]
              exact k1.block k hk (by simp)
            have hrow' : w4.ownsRow wo.heap.size 28 1 v' (j + 1) ((List.range (j + 1)).map (u64 S.now)) := by
              rw [List.range_succ, List.map_append]
              exact hown4
            have HR4 := Lib.hid hrow'
            clear hown4 hgrow4 hnil hblk hlt4 hrow hrow' hD5
            go_wp2_with fail
            exact ⟨⟨j + 1, by go_num, by omega, HR4.out, hk4⟩, by simp [intOf]; omega⟩
          · obtain rfl : j = 40 := by omega
            obtain ⟨g, cap, rfl, hR, hg⟩ := own_row HRow.out (by omega)
            have hlo : ∀ k ∈ L.own, k < wr.heap.size := hD5.lt
            have hgo : g ∉ L.own := fun hm => by have := HOW.out g hm; omega
            have hk6 : Keep [] wr (wr.alloc (.cells #[.int .u8 1, .int .u8 1, .int .u8 1, .int .u8 1, .int .u8 1] 5)) := Keep.alloc _ _
            have hcr := crash_any _ L S (hD5.keep hk6 (by simp)) _ 5 5 ones5 (pk5 wr L.own hlo)
            clear HRow HLD
            go_wp2_with fail
            (with_reducible refine hcr.mono ?_)
            rintro e w3 ⟨rfl, hD7, hK7⟩
            have hR3 := (hR.keep hk6 (by simp)).keep hK7 hgo
            have hK3 : Keep [] w w3 := ((hK4.trans hK5).trans hk6).into hK7 hf
            have hw3 := words_any w3 L _ hD7
            have hn40 := HNN.out
            have hfin : ∀ i, i < 40 → fin S ones5 i = S.now i := fun i hi => fin_all (fun j hj => if_pos hj) (by omega) (by omega)
            change Calls Try.prog 28 _ w3 (RowPost 28 S.n (u64 (fin S ones5)) w3) at hw3
            rw [hn40] at hw3
            have HFI := Lib.hid hfin
            have HN4 := Lib.hid hn40
            clear hcr hfin hn40 hR hD5 hD3
            go_wp2_with fail
            (with_reducible refine hw3.mono ?_)
            rintro e w5 ⟨g5, cap5, rfl, hR5, hg5, hk5⟩
            have hR4 := hR3.keep hk5 (by simp)
            have hsa := same_rows w5 28 28 g5 40 cap5 g cap _ _ (by omega) hR5 hR4 HFI.out
            clear hw3 hR5 hR3
            go_wp2_with fail
            (with_reducible refine hsa.mono ?_)
            rintro e w7 ⟨rfl, d7⟩
            have hD8 := (hD7.keep hk5 (by simp)).dr_ d7
            have hR7 := hR4.dr d7
            have hK8 : Keep [] w w7 := (hK3.trans hk5).trans (Keep.dr d7)
            have hcr2 := crash_any w7 L _ hD8 a1 len1 cap1 p (h1.lift hK8 hf)
            clear hsa hD7 hR4 hk5 hK3
            go_wp2_with fail
            (with_reducible refine hcr2.mono ?_)
            rintro e w8 ⟨rfl, hD9, hK9⟩
            have hR8 := hR7.keep hK9 hgo
            have hK10 : Keep [] w w8 := hK8.into hK9 hf
            have hw8 := words_any w8 L _ hD9
            change Calls Try.prog 28 _ w8 (RowPost 28 S.n (u64 (fin (crashS S ones5) p)) w8) at hw8
            rw [HN4.out] at hw8
            clear hcr2 hR7
            go_wp2_with fail
            (with_reducible refine hw8.mono ?_)
            rintro e w9 ⟨g9, cap9, rfl, hR9, hg9, hk9⟩
            have hsa := same_rows w9 28 28 g9 40 cap9 g cap _ _ (by omega) hR9 (hR8.keep hk9 (by simp)) (fun i hi => (fin_again S ones5 p i).trans (HFI.out i hi))
            clear hw8 hR9 hR8
            go_wp2_with fail
            (with_reducible refine hsa.mono ?_)
            rintro e w10 ⟨rfl, d10⟩
            clear hsa
            go_wp2_with fail
            (with_reducible refine (awake_any w10).mono ?_)
            rintro e w11 ⟨rfl, k11⟩
            go_wp2
            go_ret
            exact ⟨rfl, ((hK10.trans hk9).trans (Keep.dr d10)).trans k11⟩
end Go.Proofs.Ytjicfjnkammmcaa
