/-
  NvmEvicts, walked. No conditions.
-/
import Derived.Test.YtjicfjnkammmcaaTwo
namespace Go.Proofs.Ytjicfjnkammmcaa
open Go.RowKit Go.Flo

theorem line_num (x : Int) : ∃ q : Nat, q < 4 ∧ (IntKind.u64.wrap x).tmod 4 = (q : Int) := by
  rw [IntKind.wrap_u64, Int.tmod_eq_emod_of_nonneg (by omega)]
  exact ⟨((x % 18446744073709551616) % 4).toNat, by omega, by omega⟩

/-- A line that is as it was evicted. -/
structure Held (S : St) (q : Nat) (f : Nat → Int) : Prop where
  fl : S.fl q = false
  now : ∀ i, i / 8 = q → S.now i = f i
  sure : ∀ i, i / 8 = q → S.sure i = f i

theorem Held.step {S : St} {q : Nat} {f : Nat → Int} (h : Held S q f) : Held (stepS S) q f := ⟨h.fl, h.now, h.sure⟩
theorem Held.store {S : St} {q : Nat} {f : Nat → Int} (h : Held S q f) (x v : Int) (hx : x < 8 * q ∨ 8 * q + 8 ≤ x) : Held (storeS S x v) q f := by
  unfold storeS
  split
  · rename_i hb
    simp only [Bool.and_eq_true] at hb
    have hh := hasB_true hb.2
    refine Held.step ⟨h.fl, fun i hi => ?_, h.sure⟩
    show (if i = x.toNat then v else S.now i) = f i
    rw [if_neg (by omega)]
    exact h.now i hi
  · exact h.step
theorem Held.flush {S : St} {q : Nat} {f : Nat → Int} (h : Held S q f) (x : Int) (hx : x < 8 * q ∨ 8 * q + 8 ≤ x) : Held (flushS S x) q f := by
  unfold flushS
  split
  · rename_i hb
    simp only [Bool.and_eq_true] at hb
    have hh := hasB_true hb.2
    refine ⟨?_, h.now, h.sure⟩
    show (if q = x.toNat / 8 then true else S.fl q) = false
    rw [if_neg (by omega)]
    exact h.fl
  · exact h.step
theorem Held.do2 {S : St} {q : Nat} {f : Nat → Int} (h : Held S q f) (c : CallV) (hx : c.t < 8 * q ∨ 8 * q + 8 ≤ c.t) : Held (do2S S c) q f := by
  unfold do2S
  split
  · exact h.store _ _ hx
  · exact h.flush _ hx
theorem Held.clean {S : St} {q : Nat} {f : Nat → Int} (h : Held S q f) : nc S q = false := by
  unfold nc dirtyB
  have : eqB (hi S.n q - lo q) (fun j => S.now (lo q + j)) (fun j => S.sure (lo q + j)) = true := by
    rw [eqB_true]
    intro j hj
    have : (lo q + j) / 8 = q := by unfold hi lo at *; omega
    rw [h.now _ this, h.sure _ this]
  rw [h.fl, this]
  rfl
theorem Held.fin {S : St} {q : Nat} {f : Nat → Int} (h : Held S q f) (p : Nat → Int) {i : Nat} (hi' : i / 8 = q) : fin S p i = f i := by
  unfold Go.Proofs.Ytjicfjnkammmcaa.fin
  rw [hi', h.clean]
  exact h.sure i hi'
theorem held_evict (S : St) (q : Nat) : Held (secureS S q S.now) q S.now := by
  refine ⟨by simp [secureS], fun i _ => rfl, fun i hi => ?_⟩
  show (if 8 * q ≤ i ∧ i < 8 * q + 8 then S.now i else S.sure i) = S.now i
  rw [if_pos (by omega)]

theorem was0 (wo : World) (f : Nat → Int) (q : Nat) : Row (wo.alloc (.cells #[.int .u64 0, .int .u64 0, .int .u64 0, .int .u64 0, .int .u64 0, .int .u64 0, .int .u64 0, .int .u64 0] 56)) 56 wo.heap.size 8 8 (u64 fun i => if i < 0 then f (8 * q + i) else 0) := by
  refine ⟨_, heap_alloc_new wo _, rfl, Nat.le_refl _, by simp [maxLen], fun i hi => ?_⟩
  match i, hi with
  | 0, _ => rfl
  | 1, _ => rfl
  | 2, _ => rfl
  | 3, _ => rfl
  | 4, _ => rfl
  | 5, _ => rfl
  | 6, _ => rfl
  | 7, _ => rfl

def EvRel (w : World) (L : Loc) (len top : Nat) (x : Value) (wr : World) : Prop :=
  ∃ (i : Nat) (S : St), x = .int .i64 i ∧ i ≤ len ∧ i ≤ top ∧ Dev wr L S ∧ 0 ≤ S.steps ∧ S.steps ≤ i ∧ S.n = 32 ∧ Calm S ∧ Keep [] w wr

/-- The words that were read, as they are laid by. -/
def wasAt (f : Nat → Int) (q j : Nat) (i : Nat) : Int := if i < j then f (8 * q + i) else 0

def WasRel (wo : World) (f : Nat → Int) (q B : Nat) (x : Value) (wr : World) : Prop :=
  ∃ j : Nat, x = .int .i64 j ∧ j ≤ 8 ∧ Row wr 56 B 8 8 (u64 (wasAt f q j)) ∧ Keep [] wo wr

def LastRel (w9 : World) (x : Value) (wr : World) : Prop := ∃ j : Nat, x = .int .i64 j ∧ j ≤ 8 ∧ Dr w9 wr

def MoreRel (w : World) (L : Loc) (q B : Nat) (f : Nat → Int) (len : Nat) (x : Value) (wr : World) : Prop :=
  ∃ (i : Nat) (S : St), x = .int .i64 i ∧ i ≤ len ∧ i ≤ 20 ∧ Dev wr L S ∧ 0 ≤ S.steps ∧ S.steps ≤ 30 + i ∧ S.n = 32 ∧ Calm S ∧ Held S q f ∧ Row wr 56 B 8 8 (u64 (wasAt f q 8)) ∧ Keep [] w wr

set_option maxRecDepth 100000 in
set_option maxHeartbeats 8000000 in
theorem walk_evicts (a0 : Option Addr) (len0 cap0 : Nat) (a1 : Int) (a2 : Option Addr) (len2 cap2 : Nat) (w : World) (h0 : IsCalls w a0 len0 cap0) (h2 : IsCalls w a2 len2 cap2) :
    Calls Try.prog 8 #[.slice a0 len0 cap0, .int .i64 a1, .slice a2 len2 cap2] w fun e w' => e = .returned (.bool true) ∧ Keep [] w w' := by
  obtain ⟨hlc, hcm, hcalls⟩ := h0
  obtain ⟨hlc2, hcm2, hcalls2⟩ := h2
  obtain ⟨q, hq, hq2⟩ := line_num a1
  have HC := Lib.hid hcalls
  have HC2 := Lib.hid hcalls2
  have HQ2 := Lib.hid hq2
  clear hcalls hcalls2 hq2
  go_enter Try.func8, Try.ntmps8
  go_wp2_with fail
  have hnew : Calls Try.prog 11 #[.int .i64 32] w (DevPost (ofS 32 fun _ => 0) w) := new_any w 32
  (with_reducible refine hnew.mono ?_)
  rintro e w1 ⟨L, rfl, hD, hf, hK⟩
  clear hnew
  go_wp2_with fail
  go_loopw [8] (fun x wr => EvRel w L len0 30 x wr) (fun x _ => 30 - (intOf x).toNat)
  case atStart => exact ⟨0, _, rfl, by omega, by omega, hD, by simp [ofS], by simp [ofS], rfl, ⟨rfl, rfl⟩, hK⟩
  case round =>
    obtain ⟨i, S, rfl, hi1, hi2, hD3, s0, s1, hn, hcalm, hK4⟩ := hrel
    clear hD hK
    have HNN := Lib.hid hn
    clear hn
    by_cases hlt : i < len0 ∧ i < 30
    · obtain ⟨hl, h60⟩ := hlt
      obtain ⟨b, o, rfl, hb, hat⟩ := HC.out (by omega)
      obtain ⟨c, hc⟩ := hat i hl
      have hc' := hc.keep hK4
      have c0 := hc'.c0
      have c1 := hc'.c1
      have c2 := hc'.c2
      have c3 := hc'.c3
      clear hat HC
      have hl' : (i : Int) < (len0 : Int) := by omega
      have h60' : (i : Int) < 30 := by omega
      by_cases d0 : c.d < 2
      · have hdo := do2_any wr L S hD3 c s0 (by omega)
        go_wp2_with fail
        (with_reducible refine hdo.mono ?_)
        rintro e w3 ⟨rfl, hD5, hK5⟩
        have hK6 := hK4.into hK5 hf
        have e1 := do2_n S c
        have e2 := do2_steps S c
        have e3 := hcalm.do2 c
        have e4 := HNN.out
        generalize do2S S c = S' at *
        have HR := Lib.hid (And.intro e1 (And.intro e2 e4))
        clear e1 e2 e4 hdo hD3 hK5
        go_wp2_with fail
        obtain ⟨r1, r2, r3⟩ := HR.out
        exact ⟨⟨i + 1, S', by go_num, by omega, by omega, hD5, by omega, by omega, r1.trans r3, e3, hK6⟩, by simp [intOf]; omega⟩
      · have d0' : ¬ c.d < 2 := d0
        go_wp2_with fail
        exact ⟨⟨i + 1, S, by go_num, by omega, by omega, hD3, by omega, by omega, HNN.out, hcalm, hK4⟩, by simp [intOf]; omega⟩
    · by_cases hl : i < len0
      · have hl' : (i : Int) < (len0 : Int) := by omega
        have h60 : decide ((i : Int) < 30) = false := by simp; omega
        clear hlt HC
        generalize wr = wo at *
        have hq2 := HQ2.out
        have hn32 := HNN.out
        have hcalm' := hcalm
        obtain ⟨ho, hfu⟩ := hcalm
        have hload : ∀ (W : World), Dev W L S → ∀ j : Nat, j < 8 → Calls Try.prog 20 #[.pointer (some ⟨L.d, 0, none⟩), .int .i64 (8 * (q : Int) + j)] W fun e w' => e = .returned (.tuple #[.int .u64 (S.now (8 * q + j)), .int .i64 0]) ∧ W = w' := by
          intro W hW j hj
          have hl := load_any W L S hW (8 * (q : Int) + j)
          unfold LoadPost loadV at hl
          have hh : hasB S.n (8 * (q : Int) + j) = true := by rw [hn32]; simp [hasB]; omega
          have hx : (8 * (q : Int) + j).toNat = 8 * q + j := by omega
          rw [hh, ho, hx] at hl
          simpa [ans] using hl
        have HLD := Lib.hid hload
        have hlb : lineB S (q : Int) = true := by simp [lineB, ho, hn32, nl]; omega
        have hevs : evictS S (q : Int) = secureS S q S.now := by simp [evictS, hlb]
        have HEV := Lib.hid (And.intro hlb hevs)
        have hown := hD3.lt
        have HOW := Lib.hid hown
        clear hload ho hfu hn32 hlb hevs hown
        go_wp2_with fail
        go_loopw [42] (fun x wr => WasRel wo S.now q wo.heap.size x wr) (fun x _ => 8 - (intOf x).toNat)
        case atStart => exact ⟨0, rfl, by omega, was0 wo S.now q, Keep.alloc _ _⟩
        case round =>
          obtain ⟨j, rfl, hj, hrow, hK5⟩ := hrel
          have hD5 := hD3.keep hK5 (by simp)
          have hsz := hrow.lt
          by_cases hj8 : j < 8
          · have hj' : (j : Int) < 8 := by omega
            have hld := HLD.out wr hD5 j hj8
            have cj := hrow.cell hj8
            have zj := hrow.frozen j
            unfold u64 at cj
            go_wp2_with fail
            (with_reducible refine hld.mono ?_)
            rintro e w' ⟨rfl, rfl⟩
            clear hld
            go_wp2_with fail
            refine ⟨⟨j + 1, by go_num, by omega, ?_, hK5.into (Keep.setCell wr ⟨wo.heap.size, j, none⟩ (own := [wo.heap.size]) (by simp) _) (by simp)⟩, by simp [intOf]; omega⟩
            refine (hrow.set_ j (.int .u64 (S.now (8 * q + j)))).congr (fun i _ => ?_)
            unfold u64 wasAt
            by_cases hij : i = j
            · subst hij
              rw [if_pos rfl, if_pos (by omega)]
            · rw [if_neg hij]
              by_cases hij2 : i < j
              · rw [if_pos hij2, if_pos (by omega)]
              · rw [if_neg hij2, if_neg (by omega)]
          · obtain rfl : j = 8 := by omega
            obtain ⟨hlb, hevs⟩ := HEV.out
            have hev := evict_any wr L S hD5 q
            rw [hlb, hevs] at hev
            have hheld := held_evict S q
            have hB : wo.heap.size ≤ wo.heap.size := Nat.le_refl _
            have hnB : wo.heap.size ∉ L.own := fun hm => by have := HOW.out _ hm; omega
            have HB := Lib.hid hnB
            generalize hBd : wo.heap.size = B at *
            have n3 : (secureS S q S.now).n = 32 := HNN.out
            have c3 : Calm (secureS S q S.now) := hcalm'
            have t3 : (secureS S q S.now).steps = S.steps := rfl
            generalize secureS S q S.now = S2 at *
            generalize hdd : dirtyB S ((q : Int).toNat) = DD at *
            have HDD := Lib.hid hdd
            have HBD := Lib.hid hBd
            clear hdd hBd HEV hlb hevs HLD hnB hB
            have HT3 := Lib.hid (And.intro n3 t3)
            clear n3 t3
            go_wp2_with fail
            (with_reducible refine hev.mono ?_)
            rintro e w3 ⟨rfl, hD6, hK6⟩
            have hK7 : Keep [] w w3 := (hK4.trans hK5).into hK6 hf
            have hR6 := hrow.keep hK6 HB.out
            have hev2 : Calls Try.prog 25 #[.pointer (some ⟨L.d, 0, none⟩), .int .i64 q] w3 (Did L (evictS S2 q) w3 (.bool false)) := by
              have := evict_any w3 L S2 hD6 q
              have hcl := hheld.clean
              have hdn : dirtyB S2 ((q : Int).toNat) = false := by
                rw [Int.toNat_natCast]
                unfold nc at hcl
                cases e : S2.fl q <;> simp_all
              rw [hdn, Bool.and_false] at this
              exact this
            have hS3 : ∃ S3, evictS S2 q = S3 ∧ Held S3 q S.now ∧ Calm S3 ∧ S3.n = 32 ∧ S3.steps = S.steps := by
              refine ⟨_, rfl, ?_, ?_, ?_, ?_⟩
              · unfold evictS
                split
                · have := held_evict S2 q
                  rw [Int.toNat_natCast]
                  exact ⟨this.fl, hheld.now, fun i hi => (this.sure i hi).trans (hheld.now i hi)⟩
                · exact hheld
              · unfold evictS; split <;> exact c3
              · unfold evictS; split <;> exact HT3.out.1
              · unfold evictS; split <;> exact HT3.out.2
            obtain ⟨S3, e3, hh3, hc3, hn3, ht3⟩ := hS3
            rw [e3] at hev2
            have HN3 := Lib.hid (And.intro hn3 ht3)
            clear hev hD5 hrow hK6 e3 hn3 ht3 hD6 c3 hheld HT3 hD3 hK5
            go_wp2_with fail
            (with_reducible refine hev2.mono ?_)
            rintro e w4 ⟨rfl, hD8, hK8⟩
            have hR8 := hR6.keep hK8 HB.out
            have hK9 : Keep [] w w4 := hK7.into hK8 hf
            have hszB : B < w4.heap.size := hR8.lt
            have s0' : 0 ≤ S3.steps := by have := HN3.out.2; omega
            have s1' : S3.steps ≤ 30 := by have := HN3.out.2; omega
            clear hev2 hR6 hK7 hK8
            go_wp2_with fail
            go_loopw [11] (fun x wr => MoreRel w L q B S.now len2 x wr) (fun x _ => 20 - (intOf x).toNat)
            case atStart => exact ⟨0, S3, rfl, by omega, by omega, hD8, s0', by omega, HN3.out.1, hc3, hh3, hR8, hK9⟩
            case round =>
              obtain ⟨i3, S4, rfl, hi3, hi4, hD7, t0, t1, hn4, hcal4, hheld, hR7, hK8⟩ := hrel
              clear hD8 s0' s1' hR8 hK9 hh3 hc3 HN3
              have HN3 := Lib.hid hn4
              clear hn4
              by_cases hlt3 : i3 < len2 ∧ i3 < 20
              · obtain ⟨hl3, h203⟩ := hlt3
                obtain ⟨b, o, rfl, hb, hat⟩ := HC2.out (by omega)
                obtain ⟨c, hc⟩ := hat i3 hl3
                have hc' := hc.keep hK8
                have c0 := hc'.c0
                have c1 := hc'.c1
                have c2 := hc'.c2
                have c3 := hc'.c3
                clear hat HC2
                have hbz : b < wr.heap.size := Nat.lt_of_lt_of_le hb hK8.size
                have hl3' : (i3 : Int) < (len2 : Int) := by omega
                have h203' : (i3 : Int) < 20 := by omega
                have ka : Keep [] wr (wr.alloc (.cells #[.int .i64 c.d, .int .i64 c.t, .int .u64 c.u, .slice c.pa c.pl c.pc] 31)) := Keep.alloc _ _
                have hDa := hD7.keep ka (by simp)
                have hRa := hR7.keep ka (by simp)
                have hKa := hK8.trans ka
                have hdo := do2_any _ L S4 hDa c t0 (by omega)
                by_cases d0 : c.d < 2
                · by_cases ct : c.t < 8 * (q : Int)
                  · have ct' : decide (c.t < 8 * (q : Int)) = true := by simpa using ct
                    go_wp2_with fail
                    (with_reducible refine hdo.mono ?_)
                    rintro e w5 ⟨rfl, hD9, hK10⟩
                    have hR9 := hRa.keep hK10 HB.out
                    have hK11 := hKa.into hK10 hf
                    have e1 := do2_n S4 c
                    have e2 := do2_steps S4 c
                    have e3 := hcal4.do2 c
                    have e5 := hheld.do2 c (by omega)
                    have e4 := HN3.out
                    generalize do2S S4 c = S' at *
                    have HR := Lib.hid (And.intro e1 (And.intro e2 e4))
                    clear e1 e2 e4 hdo hD7 hK10 hDa hRa hR7
                    go_wp2_with fail
                    obtain ⟨r1, r2, r3⟩ := HR.out
                    exact ⟨⟨i3 + 1, S', by go_num, by omega, by omega, hD9, by omega, by omega, r1.trans r3, e3, e5, hR9, hK11⟩, by simp [intOf]; omega⟩
                  · have ct' : decide (c.t < 8 * (q : Int)) = false := by simpa using ct
                    by_cases ct2 : 8 * (q : Int) + 8 ≤ c.t
                    · have ct2' : decide (8 * (q : Int) + 8 ≤ c.t) = true := by simpa using ct2
                      go_wp2_with fail
                      (with_reducible refine hdo.mono ?_)
                      rintro e w5 ⟨rfl, hD9, hK10⟩
                      have hR9 := hRa.keep hK10 HB.out
                      have hK11 := hKa.into hK10 hf
                      have e1 := do2_n S4 c
                      have e2 := do2_steps S4 c
                      have e3 := hcal4.do2 c
                      have e5 := hheld.do2 c (by omega)
                      have e4 := HN3.out
                      generalize do2S S4 c = S' at *
                      have HR := Lib.hid (And.intro e1 (And.intro e2 e4))
                      clear e1 e2 e4 hdo hD7 hK10 hDa hRa hR7
                      go_wp2_with fail
                      obtain ⟨r1, r2, r3⟩ := HR.out
                      exact ⟨⟨i3 + 1, S', by go_num, by omega, by omega, hD9, by omega, by omega, r1.trans r3, e3, e5, hR9, hK11⟩, by simp [intOf]; omega⟩
                    · have ct2' : decide (8 * (q : Int) + 8 ≤ c.t) = false := by simpa using ct2
                      clear hdo
                      go_wp2_with fail
                      exact ⟨⟨i3 + 1, S4, by go_num, by omega, by omega, hDa, by omega, by omega, HN3.out, hcal4, hheld, hRa, hKa⟩, by simp [intOf]; omega⟩
                · have d0' : decide (c.d < 2) = false := by simpa using d0
                  clear hdo
                  go_wp2_with fail
                  exact ⟨⟨i3 + 1, S4, by go_num, by omega, by omega, hDa, by omega, by omega, HN3.out, hcal4, hheld, hRa, hKa⟩, by simp [intOf]; omega⟩
              · by_cases hl3 : i3 < len2
                · have hl3' : (i3 : Int) < (len2 : Int) := by omega
                  have h203 : decide ((i3 : Int) < 20) = false := by simp; omega
                  clear hlt3 HC2
                  generalize wr = wz at *
                  have hcr := crash_any wz L S4 hD7 none 0 0 (fun _ => 0) (Pk.nil _ _)
                  have hnB := HB.out
                  go_wp2_with fail
                  (with_reducible refine hcr.mono ?_)
                  rintro e w8 ⟨rfl, hD9, hK9⟩
                  have hR9 := hR7.keep hK9 hnB
                  have hK10 : Keep [] w w8 := hK8.into hK9 hf
                  have hw8 := words_any w8 L _ hD9
                  change Calls Try.prog 28 _ w8 (RowPost 28 S4.n (Go.Proofs.Ytjicfjnkammmcaa.u64 (fin S4 fun _ => 0)) w8) at hw8
                  rw [HN3.out] at hw8
                  have hfin : ∀ i, i / 8 = q → fin S4 (fun _ => 0) i = S.now i := fun i hi => hheld.fin _ hi
                  generalize fin S4 (fun _ => 0) = F at *
                  have HFI := Lib.hid hfin
                  clear hcr hD7 hfin hR7 hD9
                  go_wp2_with fail
                  (with_reducible refine hw8.mono ?_)
                  rintro e w9 ⟨g9, cap9, rfl, hR10, hg9, hk9⟩
                  have hR11 := hR9.keep hk9 (by simp)
                  have hK11 := hK10.trans hk9
                  have hcap9 := hR10.cap_le
                  clear hw8 hR9
                  have HR10 := Lib.hid hR10
                  have HR11 := Lib.hid hR11
                  clear hR10 hR11
                  go_wp2_with fail
                  go_loopw [105] (fun x wr => LastRel w9 x wr) (fun x _ => 8 - (intOf x).toNat)
                  case atStart => exact ⟨0, rfl, by omega, Dr.refl _⟩
                  case round =>
                    obtain ⟨j, rfl, hj, hdr⟩ := hrel
                    obtain ⟨m, rfl⟩ := hdr
                    by_cases hj8 : j < 8
                    · have hj' : (j : Int) < 8 := by omega
                      have ca := HR10.out.cell (show 8 * q + j < 32 by omega)
                      have cb := HR11.out.cell hj8
                      have he := HFI.out (8 * q + j) (by omega)
                      unfold Go.Proofs.Ytjicfjnkammmcaa.u64 at ca cb
                      unfold wasAt at cb
                      rw [he] at ca
                      rw [if_pos hj8] at cb
                      have x1 : (8 * (q : Int) + j) < 32 := by omega
                      have x2 : IntKind.i64.wrap (8 * (q : Int)) = 8 * (q : Int) := by rw [IntKind.wrap_i64]; omega
                      have x3 : IntKind.i64.wrap (8 * (q : Int) + (j : Int)) = 8 * (q : Int) + (j : Int) := by rw [IntKind.wrap_i64]; omega
                      have x4 : (8 * (q : Int) + (j : Int)).toNat = 8 * q + j := by omega
                      have x5 : (0 : Int) ≤ 8 * (q : Int) + (j : Int) := by omega
                      clear he
                      go_wp2_with fail
                      go_quiet (fail)
                      go_wp2_with fail
                      exact ⟨⟨j + 1, by go_num, by omega, Dr.drewN _ _⟩, by simp [intOf]; omega⟩
                    · obtain rfl : j = 8 := by omega
                      go_wp2_with fail
                      (with_reducible refine (awake_any _).mono ?_)
                      rintro e w11 ⟨rfl, k11⟩
                      go_wp2
                      go_ret
                      exact ⟨rfl, (hK11.trans (Keep.dr (Dr.drewN _ _))).trans k11⟩
                · have hl3' : decide ((i3 : Int) < (len2 : Int)) = false := by simp; omega
                  have hl32 : decide (i3 < len2) = false := by simp; omega
                  clear hlt3 HC2
                  generalize wr = wz at *
                  have hcr := crash_any wz L S4 hD7 none 0 0 (fun _ => 0) (Pk.nil _ _)
                  have hnB := HB.out
                  go_wp2_with fail
                  (with_reducible refine hcr.mono ?_)
                  rintro e w8 ⟨rfl, hD9, hK9⟩
                  have hR9 := hR7.keep hK9 hnB
                  have hK10 : Keep [] w w8 := hK8.into hK9 hf
                  have hw8 := words_any w8 L _ hD9
                  change Calls Try.prog 28 _ w8 (RowPost 28 S4.n (Go.Proofs.Ytjicfjnkammmcaa.u64 (fin S4 fun _ => 0)) w8) at hw8
                  rw [HN3.out] at hw8
                  have hfin : ∀ i, i / 8 = q → fin S4 (fun _ => 0) i = S.now i := fun i hi => hheld.fin _ hi
                  generalize fin S4 (fun _ => 0) = F at *
                  have HFI := Lib.hid hfin
                  clear hcr hD7 hfin hR7 hD9
                  go_wp2_with fail
                  (with_reducible refine hw8.mono ?_)
                  rintro e w9 ⟨g9, cap9, rfl, hR10, hg9, hk9⟩
                  have hR11 := hR9.keep hk9 (by simp)
                  have hK11 := hK10.trans hk9
                  have hcap9 := hR10.cap_le
                  clear hw8 hR9
                  have HR10 := Lib.hid hR10
                  have HR11 := Lib.hid hR11
                  clear hR10 hR11
                  go_wp2_with fail
                  go_loopw [105] (fun x wr => LastRel w9 x wr) (fun x _ => 8 - (intOf x).toNat)
                  case atStart => exact ⟨0, rfl, by omega, Dr.refl _⟩
                  case round =>
                    obtain ⟨j, rfl, hj, hdr⟩ := hrel
                    obtain ⟨m, rfl⟩ := hdr
                    by_cases hj8 : j < 8
                    · have hj' : (j : Int) < 8 := by omega
                      have ca := HR10.out.cell (show 8 * q + j < 32 by omega)
                      have cb := HR11.out.cell hj8
                      have he := HFI.out (8 * q + j) (by omega)
                      unfold Go.Proofs.Ytjicfjnkammmcaa.u64 at ca cb
                      unfold wasAt at cb
                      rw [he] at ca
                      rw [if_pos hj8] at cb
                      have x1 : (8 * (q : Int) + j) < 32 := by omega
                      have x2 : IntKind.i64.wrap (8 * (q : Int)) = 8 * (q : Int) := by rw [IntKind.wrap_i64]; omega
                      have x3 : IntKind.i64.wrap (8 * (q : Int) + (j : Int)) = 8 * (q : Int) + (j : Int) := by rw [IntKind.wrap_i64]; omega
                      have x4 : (8 * (q : Int) + (j : Int)).toNat = 8 * q + j := by omega
                      have x5 : (0 : Int) ≤ 8 * (q : Int) + (j : Int) := by omega
                      clear he
                      go_wp2_with fail
                      go_quiet (fail)
                      go_wp2_with fail
                      exact ⟨⟨j + 1, by go_num, by omega, Dr.drewN _ _⟩, by simp [intOf]; omega⟩
                    · obtain rfl : j = 8 := by omega
                      go_wp2_with fail
                      (with_reducible refine (awake_any _).mono ?_)
                      rintro e w11 ⟨rfl, k11⟩
                      go_wp2
                      go_ret
                      exact ⟨rfl, (hK11.trans (Keep.dr (Dr.drewN _ _))).trans k11⟩
      · have hl' : decide ((i : Int) < (len0 : Int)) = false := by simp; omega
        have hl2 : decide (i < len0) = false := by simp; omega
        clear hlt HC
        generalize wr = wo at *
        have hq2 := HQ2.out
        have hn32 := HNN.out
        have hcalm' := hcalm
        obtain ⟨ho, hfu⟩ := hcalm
        have hload : ∀ (W : World), Dev W L S → ∀ j : Nat, j < 8 → Calls Try.prog 20 #[.pointer (some ⟨L.d, 0, none⟩), .int .i64 (8 * (q : Int) + j)] W fun e w' => e = .returned (.tuple #[.int .u64 (S.now (8 * q + j)), .int .i64 0]) ∧ W = w' := by
          intro W hW j hj
          have hl := load_any W L S hW (8 * (q : Int) + j)
          unfold LoadPost loadV at hl
          have hh : hasB S.n (8 * (q : Int) + j) = true := by rw [hn32]; simp [hasB]; omega
          have hx : (8 * (q : Int) + j).toNat = 8 * q + j := by omega
          rw [hh, ho, hx] at hl
          simpa [ans] using hl
        have HLD := Lib.hid hload
        have hlb : lineB S (q : Int) = true := by simp [lineB, ho, hn32, nl]; omega
        have hevs : evictS S (q : Int) = secureS S q S.now := by simp [evictS, hlb]
        have HEV := Lib.hid (And.intro hlb hevs)
        have hown := hD3.lt
        have HOW := Lib.hid hown
        clear hload ho hfu hn32 hlb hevs hown
        go_wp2_with fail
        go_loopw [42] (fun x wr => WasRel wo S.now q wo.heap.size x wr) (fun x _ => 8 - (intOf x).toNat)
        case atStart => exact ⟨0, rfl, by omega, was0 wo S.now q, Keep.alloc _ _⟩
        case round =>
          obtain ⟨j, rfl, hj, hrow, hK5⟩ := hrel
          have hD5 := hD3.keep hK5 (by simp)
          have hsz := hrow.lt
          by_cases hj8 : j < 8
          · have hj' : (j : Int) < 8 := by omega
            have hld := HLD.out wr hD5 j hj8
            have cj := hrow.cell hj8
            have zj := hrow.frozen j
            unfold u64 at cj
            go_wp2_with fail
            (with_reducible refine hld.mono ?_)
            rintro e w' ⟨rfl, rfl⟩
            clear hld
            go_wp2_with fail
            refine ⟨⟨j + 1, by go_num, by omega, ?_, hK5.into (Keep.setCell wr ⟨wo.heap.size, j, none⟩ (own := [wo.heap.size]) (by simp) _) (by simp)⟩, by simp [intOf]; omega⟩
            refine (hrow.set_ j (.int .u64 (S.now (8 * q + j)))).congr (fun i _ => ?_)
            unfold u64 wasAt
            by_cases hij : i = j
            · subst hij
              rw [if_pos rfl, if_pos (by omega)]
            · rw [if_neg hij]
              by_cases hij2 : i < j
              · rw [if_pos hij2, if_pos (by omega)]
              · rw [if_neg hij2, if_neg (by omega)]
          · obtain rfl : j = 8 := by omega
            obtain ⟨hlb, hevs⟩ := HEV.out
            have hev := evict_any wr L S hD5 q
            rw [hlb, hevs] at hev
            have hheld := held_evict S q
            have hB : wo.heap.size ≤ wo.heap.size := Nat.le_refl _
            have hnB : wo.heap.size ∉ L.own := fun hm => by have := HOW.out _ hm; omega
            have HB := Lib.hid hnB
            generalize hBd : wo.heap.size = B at *
            have n3 : (secureS S q S.now).n = 32 := HNN.out
            have c3 : Calm (secureS S q S.now) := hcalm'
            have t3 : (secureS S q S.now).steps = S.steps := rfl
            generalize secureS S q S.now = S2 at *
            generalize hdd : dirtyB S ((q : Int).toNat) = DD at *
            have HDD := Lib.hid hdd
            have HBD := Lib.hid hBd
            clear hdd hBd HEV hlb hevs HLD hnB hB
            have HT3 := Lib.hid (And.intro n3 t3)
            clear n3 t3
            go_wp2_with fail
            (with_reducible refine hev.mono ?_)
            rintro e w3 ⟨rfl, hD6, hK6⟩
            have hK7 : Keep [] w w3 := (hK4.trans hK5).into hK6 hf
            have hR6 := hrow.keep hK6 HB.out
            have hev2 : Calls Try.prog 25 #[.pointer (some ⟨L.d, 0, none⟩), .int .i64 q] w3 (Did L (evictS S2 q) w3 (.bool false)) := by
              have := evict_any w3 L S2 hD6 q
              have hcl := hheld.clean
              have hdn : dirtyB S2 ((q : Int).toNat) = false := by
                rw [Int.toNat_natCast]
                unfold nc at hcl
                cases e : S2.fl q <;> simp_all
              rw [hdn, Bool.and_false] at this
              exact this
            have hS3 : ∃ S3, evictS S2 q = S3 ∧ Held S3 q S.now ∧ Calm S3 ∧ S3.n = 32 ∧ S3.steps = S.steps := by
              refine ⟨_, rfl, ?_, ?_, ?_, ?_⟩
              · unfold evictS
                split
                · have := held_evict S2 q
                  rw [Int.toNat_natCast]
                  exact ⟨this.fl, hheld.now, fun i hi => (this.sure i hi).trans (hheld.now i hi)⟩
                · exact hheld
              · unfold evictS; split <;> exact c3
              · unfold evictS; split <;> exact HT3.out.1
              · unfold evictS; split <;> exact HT3.out.2
            obtain ⟨S3, e3, hh3, hc3, hn3, ht3⟩ := hS3
            rw [e3] at hev2
            have HN3 := Lib.hid (And.intro hn3 ht3)
            clear hev hD5 hrow hK6 e3 hn3 ht3 hD6 c3 hheld HT3 hD3 hK5
            go_wp2_with fail
            (with_reducible refine hev2.mono ?_)
            rintro e w4 ⟨rfl, hD8, hK8⟩
            have hR8 := hR6.keep hK8 HB.out
            have hK9 : Keep [] w w4 := hK7.into hK8 hf
            have hszB : B < w4.heap.size := hR8.lt
            have s0' : 0 ≤ S3.steps := by have := HN3.out.2; omega
            have s1' : S3.steps ≤ 30 := by have := HN3.out.2; omega
            clear hev2 hR6 hK7 hK8
            go_wp2_with fail
            go_loopw [11] (fun x wr => MoreRel w L q B S.now len2 x wr) (fun x _ => 20 - (intOf x).toNat)
            case atStart => exact ⟨0, S3, rfl, by omega, by omega, hD8, s0', by omega, HN3.out.1, hc3, hh3, hR8, hK9⟩
            case round =>
              obtain ⟨i3, S4, rfl, hi3, hi4, hD7, t0, t1, hn4, hcal4, hheld, hR7, hK8⟩ := hrel
              clear hD8 s0' s1' hR8 hK9 hh3 hc3 HN3
              have HN3 := Lib.hid hn4
              clear hn4
              by_cases hlt3 : i3 < len2 ∧ i3 < 20
              · obtain ⟨hl3, h203⟩ := hlt3
                obtain ⟨b, o, rfl, hb, hat⟩ := HC2.out (by omega)
                obtain ⟨c, hc⟩ := hat i3 hl3
                have hc' := hc.keep hK8
                have c0 := hc'.c0
                have c1 := hc'.c1
                have c2 := hc'.c2
                have c3 := hc'.c3
                clear hat HC2
                have hbz : b < wr.heap.size := Nat.lt_of_lt_of_le hb hK8.size
                have hl3' : (i3 : Int) < (len2 : Int) := by omega
                have h203' : (i3 : Int) < 20 := by omega
                have ka : Keep [] wr (wr.alloc (.cells #[.int .i64 c.d, .int .i64 c.t, .int .u64 c.u, .slice c.pa c.pl c.pc] 31)) := Keep.alloc _ _
                have hDa := hD7.keep ka (by simp)
                have hRa := hR7.keep ka (by simp)
                have hKa := hK8.trans ka
                have hdo := do2_any _ L S4 hDa c t0 (by omega)
                by_cases d0 : c.d < 2
                · by_cases ct : c.t < 8 * (q : Int)
                  · have ct' : decide (c.t < 8 * (q : Int)) = true := by simpa using ct
                    go_wp2_with fail
                    (with_reducible refine hdo.mono ?_)
                    rintro e w5 ⟨rfl, hD9, hK10⟩
                    have hR9 := hRa.keep hK10 HB.out
                    have hK11 := hKa.into hK10 hf
                    have e1 := do2_n S4 c
                    have e2 := do2_steps S4 c
                    have e3 := hcal4.do2 c
                    have e5 := hheld.do2 c (by omega)
                    have e4 := HN3.out
                    generalize do2S S4 c = S' at *
                    have HR := Lib.hid (And.intro e1 (And.intro e2 e4))
                    clear e1 e2 e4 hdo hD7 hK10 hDa hRa hR7
                    go_wp2_with fail
                    obtain ⟨r1, r2, r3⟩ := HR.out
                    exact ⟨⟨i3 + 1, S', by go_num, by omega, by omega, hD9, by omega, by omega, r1.trans r3, e3, e5, hR9, hK11⟩, by simp [intOf]; omega⟩
                  · have ct' : decide (c.t < 8 * (q : Int)) = false := by simpa using ct
                    by_cases ct2 : 8 * (q : Int) + 8 ≤ c.t
                    · have ct2' : decide (8 * (q : Int) + 8 ≤ c.t) = true := by simpa using ct2
                      go_wp2_with fail
                      (with_reducible refine hdo.mono ?_)
                      rintro e w5 ⟨rfl, hD9, hK10⟩
                      have hR9 := hRa.keep hK10 HB.out
                      have hK11 := hKa.into hK10 hf
                      have e1 := do2_n S4 c
                      have e2 := do2_steps S4 c
                      have e3 := hcal4.do2 c
                      have e5 := hheld.do2 c (by omega)
                      have e4 := HN3.out
                      generalize do2S S4 c = S' at *
                      have HR := Lib.hid (And.intro e1 (And.intro e2 e4))
                      clear e1 e2 e4 hdo hD7 hK10 hDa hRa hR7
                      go_wp2_with fail
                      obtain ⟨r1, r2, r3⟩ := HR.out
                      exact ⟨⟨i3 + 1, S', by go_num, by omega, by omega, hD9, by omega, by omega, r1.trans r3, e3, e5, hR9, hK11⟩, by simp [intOf]; omega⟩
                    · have ct2' : decide (8 * (q : Int) + 8 ≤ c.t) = false := by simpa using ct2
                      clear hdo
                      go_wp2_with fail
                      exact ⟨⟨i3 + 1, S4, by go_num, by omega, by omega, hDa, by omega, by omega, HN3.out, hcal4, hheld, hRa, hKa⟩, by simp [intOf]; omega⟩
                · have d0' : decide (c.d < 2) = false := by simpa using d0
                  clear hdo
                  go_wp2_with fail
                  exact ⟨⟨i3 + 1, S4, by go_num, by omega, by omega, hDa, by omega, by omega, HN3.out, hcal4, hheld, hRa, hKa⟩, by simp [intOf]; omega⟩
              · by_cases hl3 : i3 < len2
                · have hl3' : (i3 : Int) < (len2 : Int) := by omega
                  have h203 : decide ((i3 : Int) < 20) = false := by simp; omega
                  clear hlt3 HC2
                  generalize wr = wz at *
                  have hcr := crash_any wz L S4 hD7 none 0 0 (fun _ => 0) (Pk.nil _ _)
                  have hnB := HB.out
                  go_wp2_with fail
                  (with_reducible refine hcr.mono ?_)
                  rintro e w8 ⟨rfl, hD9, hK9⟩
                  have hR9 := hR7.keep hK9 hnB
                  have hK10 : Keep [] w w8 := hK8.into hK9 hf
                  have hw8 := words_any w8 L _ hD9
                  change Calls Try.prog 28 _ w8 (RowPost 28 S4.n (Go.Proofs.Ytjicfjnkammmcaa.u64 (fin S4 fun _ => 0)) w8) at hw8
                  rw [HN3.out] at hw8
                  have hfin : ∀ i, i / 8 = q → fin S4 (fun _ => 0) i = S.now i := fun i hi => hheld.fin _ hi
                  generalize fin S4 (fun _ => 0) = F at *
                  have HFI := Lib.hid hfin
                  clear hcr hD7 hfin hR7 hD9
                  go_wp2_with fail
                  (with_reducible refine hw8.mono ?_)
                  rintro e w9 ⟨g9, cap9, rfl, hR10, hg9, hk9⟩
                  have hR11 := hR9.keep hk9 (by simp)
                  have hK11 := hK10.trans hk9
                  have hcap9 := hR10.cap_le
                  clear hw8 hR9
                  have HR10 := Lib.hid hR10
                  have HR11 := Lib.hid hR11
                  clear hR10 hR11
                  go_wp2_with fail
                  go_loopw [105] (fun x wr => LastRel w9 x wr) (fun x _ => 8 - (intOf x).toNat)
                  case atStart => exact ⟨0, rfl, by omega, Dr.refl _⟩
                  case round =>
                    obtain ⟨j, rfl, hj, hdr⟩ := hrel
                    obtain ⟨m, rfl⟩ := hdr
                    by_cases hj8 : j < 8
                    · have hj' : (j : Int) < 8 := by omega
                      have ca := HR10.out.cell (show 8 * q + j < 32 by omega)
                      have cb := HR11.out.cell hj8
                      have he := HFI.out (8 * q + j) (by omega)
                      unfold Go.Proofs.Ytjicfjnkammmcaa.u64 at ca cb
                      unfold wasAt at cb
                      rw [he] at ca
                      rw [if_pos hj8] at cb
                      have x1 : (8 * (q : Int) + j) < 32 := by omega
                      have x2 : IntKind.i64.wrap (8 * (q : Int)) = 8 * (q : Int) := by rw [IntKind.wrap_i64]; omega
                      have x3 : IntKind.i64.wrap (8 * (q : Int) + (j : Int)) = 8 * (q : Int) + (j : Int) := by rw [IntKind.wrap_i64]; omega
                      have x4 : (8 * (q : Int) + (j : Int)).toNat = 8 * q + j := by omega
                      have x5 : (0 : Int) ≤ 8 * (q : Int) + (j : Int) := by omega
                      clear he
                      go_wp2_with fail
                      go_quiet (fail)
                      go_wp2_with fail
                      exact ⟨⟨j + 1, by go_num, by omega, Dr.drewN _ _⟩, by simp [intOf]; omega⟩
                    · obtain rfl : j = 8 := by omega
                      go_wp2_with fail
                      (with_reducible refine (awake_any _).mono ?_)
                      rintro e w11 ⟨rfl, k11⟩
                      go_wp2
                      go_ret
                      exact ⟨rfl, (hK11.trans (Keep.dr (Dr.drewN _ _))).trans k11⟩
                · have hl3' : decide ((i3 : Int) < (len2 : Int)) = false := by simp; omega
                  have hl32 : decide (i3 < len2) = false := by simp; omega
                  clear hlt3 HC2
                  generalize wr = wz at *
                  have hcr := crash_any wz L S4 hD7 none 0 0 (fun _ => 0) (Pk.nil _ _)
                  have hnB := HB.out
                  go_wp2_with fail
                  (with_reducible refine hcr.mono ?_)
                  rintro e w8 ⟨rfl, hD9, hK9⟩
                  have hR9 := hR7.keep hK9 hnB
                  have hK10 : Keep [] w w8 := hK8.into hK9 hf
                  have hw8 := words_any w8 L _ hD9
                  change Calls Try.prog 28 _ w8 (RowPost 28 S4.n (Go.Proofs.Ytjicfjnkammmcaa.u64 (fin S4 fun _ => 0)) w8) at hw8
                  rw [HN3.out] at hw8
                  have hfin : ∀ i, i / 8 = q → fin S4 (fun _ => 0) i = S.now i := fun i hi => hheld.fin _ hi
                  generalize fin S4 (fun _ => 0) = F at *
                  have HFI := Lib.hid hfin
                  clear hcr hD7 hfin hR7 hD9
                  go_wp2_with fail
                  (with_reducible refine hw8.mono ?_)
                  rintro e w9 ⟨g9, cap9, rfl, hR10, hg9, hk9⟩
                  have hR11 := hR9.keep hk9 (by simp)
                  have hK11 := hK10.trans hk9
                  have hcap9 := hR10.cap_le
                  clear hw8 hR9
                  have HR10 := Lib.hid hR10
                  have HR11 := Lib.hid hR11
                  clear hR10 hR11
                  go_wp2_with fail
                  go_loopw [105] (fun x wr => LastRel w9 x wr) (fun x _ => 8 - (intOf x).toNat)
                  case atStart => exact ⟨0, rfl, by omega, Dr.refl _⟩
                  case round =>
                    obtain ⟨j, rfl, hj, hdr⟩ := hrel
                    obtain ⟨m, rfl⟩ := hdr
                    by_cases hj8 : j < 8
                    · have hj' : (j : Int) < 8 := by omega
                      have ca := HR10.out.cell (show 8 * q + j < 32 by omega)
                      have cb := HR11.out.cell hj8
                      have he := HFI.out (8 * q + j) (by omega)
                      unfold Go.Proofs.Ytjicfjnkammmcaa.u64 at ca cb
                      unfold wasAt at cb
                      rw [he] at ca
                      rw [if_pos hj8] at cb
                      have x1 : (8 * (q : Int) + j) < 32 := by omega
                      have x2 : IntKind.i64.wrap (8 * (q : Int)) = 8 * (q : Int) := by rw [IntKind.wrap_i64]; omega
                      have x3 : IntKind.i64.wrap (8 * (q : Int) + (j : Int)) = 8 * (q : Int) + (j : Int) := by rw [IntKind.wrap_i64]; omega
                      have x4 : (8 * (q : Int) + (j : Int)).toNat = 8 * q + j := by omega
                      have x5 : (0 : Int) ≤ 8 * (q : Int) + (j : Int) := by omega
                      clear he
                      go_wp2_with fail
                      go_quiet (fail)
                      go_wp2_with fail
                      exact ⟨⟨j + 1, by go_num, by omega, Dr.drewN _ _⟩, by simp [intOf]; omega⟩
                    · obtain rfl : j = 8 := by omega
                      go_wp2_with fail
                      (with_reducible refine (awake_any _).mono ?_)
                      rintro e w11 ⟨rfl, k11⟩
                      go_wp2
                      go_ret
                      exact ⟨rfl, (hK11.trans (Keep.dr (Dr.drewN _ _))).trans k11⟩
end Go.Proofs.Ytjicfjnkammmcaa
