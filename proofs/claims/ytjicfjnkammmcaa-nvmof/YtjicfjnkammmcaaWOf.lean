/-
  NvmOf, walked. No conditions.
-/
import Derived.Test.YtjicfjnkammmcaaWOf0
namespace Go.Proofs.Ytjicfjnkammmcaa
open Go.RowKit Go.Flo

/-- A slice that came in leads to a block that is there. -/
theorem okWide_block {P : Program} {w : World} {r : Reach} {base len cap : Nat} {t e : TypeId} {a : Addr} (ht : P.underlying t = some (.slice e)) (h : Value.okWide P w r base t (.slice (some a) len cap)) : a.block < w.heap.size := by
  simp only [Value.okWide, ht, Cell.okWide, Cell.ok] at h
  obtain ⟨_, _, _, _, row, cells, hs, _⟩ := h
  unfold World.shape? at hs
  rcases Nat.lt_or_ge a.block w.heap.size with hlt | hge
  · exact hlt
  · rw [Array.getElem?_eq_none hge] at hs
    cases hs

theorem at_num (x : Int) (n : Nat) (hn : 0 < n) (hn2 : n ≤ 300) : ∃ k : Nat, k < n ∧ (IntKind.u64.wrap x).tmod (n : Int) = (k : Int) := by
  rw [IntKind.wrap_u64, Int.tmod_eq_emod_of_nonneg (by omega)]
  have h1 := Int.emod_nonneg (x % 18446744073709551616) (show (n : Int) ≠ 0 by omega)
  have h2 := Int.emod_lt_of_pos (x % 18446744073709551616) (show (0 : Int) < n by omega)
  exact ⟨((x % 18446744073709551616) % (n : Int)).toNat, by omega, by omega⟩

set_option maxRecDepth 100000 in
set_option maxHeartbeats 4000000 in
theorem walk_of_zero (x : Addr) (c : Nat) (a1 v : Int) (w : World) (hc : c ≤ 9223372036854775807) (hb : x.block < w.heap.size) :
    Calls Try.prog 9 #[.slice (some x) 0 c, .int .i64 a1, .int .u64 v] w fun e w' => e = .returned (.bool true) ∧ Keep [] w w' := by
  have ho := of_any w x 0 c (fun _ => 0) (by omega) (by omega) hc (fun j hj => absurd hj (by omega)) hb
  go_enter Try.func9, Try.ntmps9
  go_wp2_with fail
  (with_reducible refine ho.mono ?_)
  rintro e w1 ⟨L, rfl, hD, hf, hK⟩
  have hl : Calls Try.prog 24 #[.pointer (some ⟨L.d, 0, none⟩)] w1 fun e w' => e = .returned (.int .i64 0) ∧ w1 = w' := len_any w1 L _ hD
  have hs : Calls Try.prog 26 #[.pointer (some ⟨L.d, 0, none⟩)] w1 fun e w' => e = .returned (.int .i64 0) ∧ w1 = w' := steps_any w1 L _ hD
  have hw : Calls Try.prog 28 #[.pointer (some ⟨L.d, 0, none⟩)] w1 (RowPost 28 0 (u64 fun _ => 0) w1) := words_any w1 L _ hD
  go_wp2_with fail
  (with_reducible refine hl.mono ?_)
  rintro e w' ⟨rfl, rfl⟩
  go_wp2_with fail
  (with_reducible refine hs.mono ?_)
  rintro e w' ⟨rfl, rfl⟩
  go_wp2_with fail
  (with_reducible refine hw.mono ?_)
  rintro e w2 ⟨g, cap, rfl, hR, hg, hk2⟩
  clear hl hs hw ho
  go_wp2_with fail
  (with_reducible refine (same_none w2 _ _ cap c).mono ?_)
  rintro e w3 ⟨rfl, d3⟩
  have hst : Calls Try.prog 21 #[.pointer (some ⟨L.d, 0, none⟩), .int .i64 0, .int .u64 v] w3 (Did L _ w3 (.int .i64 1)) := store_any w3 L _ ((hD.keep hk2 (by simp)).dr_ d3) 0 v (by simp [ofS]) (by simp [ofS])
  go_wp2_with fail
  (with_reducible refine hst.mono ?_)
  rintro e w4 ⟨rfl, hD4, hK4⟩
  clear hst
  go_wp2_with fail
  (with_reducible refine (awake_any w4).mono ?_)
  rintro e w5 ⟨rfl, hK5⟩
  go_wp2
  go_ret
  exact ⟨rfl, (((hK.trans hk2).trans (Keep.dr d3)).into hK4 hf).trans hK5⟩

theorem own_rowO {w : World} {B n : Nat} {v : Value} {f : Nat → Value} (h : w.ownsRow B 28 1 v n ((List.range n).map f)) (hn : 0 < n) : ∃ g cap, v = .slice (some ⟨g, 0, none⟩) n cap ∧ Row w 28 g n cap f ∧ B ≤ g := by
  obtain ⟨_, h2⟩ := id h
  rcases h2 with ⟨_, h2⟩ | ⟨g, cap, cur, rfl, hg, _⟩
  · omega
  · exact ⟨g, cap, rfl, Row.of_owns h, hg⟩

/-- Of some words, at most 300: all behind the cut. -/
def OfRest (b o n c : Nat) (f : Nat → Int) (w : World) : Prop := 0 < n ∧ n ≤ 300 ∧ n ≤ c ∧ c ≤ 9223372036854775807 ∧ b < w.heap.size ∧ ∀ j, j < n → w.cell? ⟨b, o + j, none⟩ = some (u64 f j)

set_option maxRecDepth 100000 in
set_option maxHeartbeats 4000000 in
theorem walk_of_some (b o len n c : Nat) (f : Nat → Int) (a1 v : Int) (w : World) (h : OfRest b o n c f w) (hlen : n = min len 300) (hlc : len ≤ c) :
    Calls Try.prog 9 #[.slice (some ⟨b, o, none⟩) len c, .int .i64 a1, .int .u64 v] w fun e w' => e = .returned (.bool true) ∧ Keep [] w w' := by
  obtain ⟨hn0, hn3, hnc, hcm, hb, hcell⟩ := h
  obtain ⟨k, hk, hk2⟩ := at_num a1 n hn0 hn3
  obtain ⟨i0, hi0, hz0, hz1, hz2⟩ := info_parts parts28
  have hcadd : ∀ j, j < n → w.cell? ((⟨b, o, none⟩ : Addr).add j) = some (u64 f j) := by
    intro j hj
    have e : (⟨b, o, none⟩ : Addr).add j = ⟨b, o + j, none⟩ := by unfold Addr.add; split <;> simp_all
    rw [e]
    exact hcell j hj
  have ho := of_any w ⟨b, o, none⟩ n c f (by omega) hnc hcm hcadd hb
  have HCA := Lib.hid hcadd
  have HCE := Lib.hid hcell
  clear hcadd hcell
  by_cases h300 : 300 < len
  · obtain rfl : n = 300 := by omega
    have h300' : (300 : Int) < (len : Int) := by omega
    have x1 : (300 : Int) ≤ (c : Int) := by omega
    have x2 : 300 ≤ c := by omega
    change Calls Try.prog 31 #[.slice (some ⟨b, o, none⟩) 300 c] w _ at ho
    change (IntKind.u64.wrap a1).tmod 300 = (k : Int) at hk2
    clear hlen
    go_enter Try.func9, Try.ntmps9
    go_wp2_with fail
    (with_reducible refine ho.mono ?_)
    rintro e w1 ⟨L, rfl, hD, hf, hK⟩
    have hl : Calls Try.prog 24 #[.pointer (some ⟨L.d, 0, none⟩)] w1 fun e w' => e = .returned (.int .i64 300) ∧ w1 = w' := len_any w1 L _ hD
    have hs : Calls Try.prog 26 #[.pointer (some ⟨L.d, 0, none⟩)] w1 fun e w' => e = .returned (.int .i64 0) ∧ w1 = w' := steps_any w1 L _ hD
    have hw : Calls Try.prog 28 #[.pointer (some ⟨L.d, 0, none⟩)] w1 (RowPost 28 300 (u64 f) w1) := words_any w1 L _ hD
    clear ho
    go_wp2_with fail
    (with_reducible refine hl.mono ?_)
    rintro e w' ⟨rfl, rfl⟩
    go_wp2_with fail
    (with_reducible refine hs.mono ?_)
    rintro e w' ⟨rfl, rfl⟩
    go_wp2_with fail
    (with_reducible refine hw.mono ?_)
    rintro e w2 ⟨g, cap, rfl, hR, hg, hk3⟩
    have hK2 := hK.trans hk3
    have hsm : ∀ (W : World) (g cap : Nat), Row W 28 g 300 cap (u64 f) → Keep [] w W → Calls Try.prog 29 #[.slice (some ⟨g, 0, none⟩) 300 cap, .slice (some ⟨b, o, none⟩) 300 c] W fun e w' => e = .returned (.bool true) ∧ Dr W w' := by
      intro W g cap hRW hKW
      have := same_any W g 0 cap b o c 300 f f (by omega) (fun j hj => by rw [Nat.zero_add]; exact hRW.cell hj) (fun j hj => (hKW.cell (p := ⟨b, o + j, none⟩) hb (by simp)).trans (HCE.out j hj))
      rw [eqB_true.2 (fun _ _ => rfl)] at this
      exact this
    have hsa := hsm w2 g cap hR hK2
    have HSM := Lib.hid hsm
    clear hl hs hw hsm hR
    go_wp2_with fail
    (with_reducible refine hsa.mono ?_)
    rintro e w3 ⟨rfl, d3⟩
    have hD3 := (hD.keep hk3 (by simp)).dr_ d3
    have hK3 := hK2.trans (Keep.dr d3)
    have hst : Calls Try.prog 21 #[.pointer (some ⟨L.d, 0, none⟩), .int .i64 k, .int .u64 v] w3 (Did L (of1 300 f k v) w3 (.int .i64 0)) := by
      have := store_any w3 L _ hD3 k v (by simp [ofS]) (by simp [ofS])
      rw [of_ans1 hk] at this
      exact this
    clear hsa hD
    go_wp2_with fail
    (with_reducible refine hst.mono ?_)
    rintro e w4 ⟨rfl, hD4, hK4⟩
    have hK5 := hK3.into hK4 hf
    have hw4 : Calls Try.prog 28 #[.pointer (some ⟨L.d, 0, none⟩)] w4 (RowPost 28 300 (u64 f) w4) := by
      have := words_any w4 L _ hD4
      rw [of1_eq hk] at this
      exact this
    clear hst
    go_wp2_with fail
    (with_reducible refine hw4.mono ?_)
    rintro e w5 ⟨g5, cap5, rfl, hR5, hg5, hk5⟩
    have hsa := HSM.out w5 g5 cap5 hR5 (hK5.trans hk5)
    clear hw4
    go_wp2_with fail
    (with_reducible refine hsa.mono ?_)
    rintro e w6 ⟨rfl, d6⟩
    have hD6 := (hD4.keep hk5 (by simp)).dr_ d6
    have hK6 := (hK5.trans hk5).trans (Keep.dr d6)
    have hfl : Calls Try.prog 22 #[.pointer (some ⟨L.d, 0, none⟩), .int .i64 k] w6 (Did L (of2 300 f k v) w6 (.int .i64 _)) := flush_any w6 L _ hD6 k (by rw [of1_eq hk]; simp [stepS, putS, ofS]) (by rw [of1_eq hk]; simp [stepS, putS, ofS])
    generalize ans (stepS (of1 300 f k v)).off (hasB (of1 300 f k v).n (k : Int)) = E1 at hfl
    clear hsa hD4 hR5 hK5 hk5
    go_wp2_with fail
    (with_reducible refine hfl.mono ?_)
    rintro e w7 ⟨rfl, hD7, hK7⟩
    have hK8 := hK6.into hK7 hf
    have hfe : Calls Try.prog 23 #[.pointer (some ⟨L.d, 0, none⟩)] w7 (Did L (of3 300 f k v) w7 (.int .i64 _)) := fence_any w7 L _ hD7 (by rw [of2_eq hk]; simp [takeS, stepS, putS, ofS]) (by rw [of2_eq hk]; simp [takeS, stepS, putS, ofS])
    generalize ans (stepS (of2 300 f k v)).off true = E2 at hfe
    clear hfl
    go_wp2_with fail
    (with_reducible refine hfe.mono ?_)
    rintro e w8 ⟨rfl, hD8, hK8'⟩
    have hK9 := hK8.into hK8' hf
    clear hfe hD7 hD6 hK8 hK7
    have hb8 : b < w8.heap.size := Nat.lt_of_lt_of_le hb hK9.size
    go_wp2_with (at_builtin; refine wpList_append_own_at _ rfl (.const (.slice none 0 0)) (.tmp 67) 48 rfl w8.heap.size 28 i0 (.int .u64 0) 1 8 Try.underlying48 hi0 hz0 hz1 hz2 rfl (by omega) (.slice none 0 0) 0 [] rfl (World.ownsRow_nil w8 w8.heap.size 28 1) ⟨b, o, none⟩ 300 c ((List.range 300).map (u64 f)) rfl ?c1 ?c2 ?c3 ?c4 ?c5 ?c6 ?_)
    case c1 => simp
    case c2 =>
      intro j u hu
      have hj : j < 300 := by
        have := (List.getElem?_eq_some_iff.1 hu).1
        simpa using this
      have hu' : u64 f j = u := by simpa [hj] using hu
      rw [← hu']
      exact (hK9.cell (by rw [add_block]; exact hb) (by simp)).trans (HCA.out j hj)
    case c3 =>
      intro u hu
      simp only [List.mem_map, List.mem_range] at hu
      obtain ⟨j, _, rfl⟩ := hu
      rfl
    case c4 => first | (simp [maxLen]; done) | (simp [maxLen]; omega)
    case c5 => omega
    case c6 => omega
    intro v' w9 hown hgrow hnil hblk
    have hk9 : Keep [] w8 w9 := Keep.grown hgrow (fun k _ e => by simp [Value.ownBlock] at e)
    have hown' : w9.ownsRow w8.heap.size 28 1 v' 300 ((List.range 300).map (u64 f)) := by simpa using hown
    obtain ⟨gu, capu, rfl, hRu, hgu⟩ := own_rowO hown' hn0
    have ck := hRu.cell hk
    have zk := hRu.frozen k
    have hgo : gu ∉ L.own := fun hm => by have := hD8.lt gu hm; omega
    have hD9 := hD8.keep hk9 (by simp)
    clear hown hown' hgrow hnil hblk
    have hki : (k : Int) < 300 := by omega
    have hw9 : ∀ W : World, Dev W L (of3 300 f k v) → Calls Try.prog 28 #[.pointer (some ⟨L.d, 0, none⟩)] W (RowPost 28 300 (u64 (of3 300 f k v).sure) W) := by
      intro W hW
      have := words_any W L _ hW
      have e : (of3 300 f k v).n = 300 := by rw [of3_eq hk]; rfl
      rw [e] at this
      exact this
    have hks : Keep [gu] w9 (w9.setCell ⟨gu, k, none⟩ (.int .u64 v)) := Keep.setCell _ _ (by simp) _
    have hD10 := hD9.keep hks (by simpa using hgo)
    have hR10 := hRu.set_ k (.int .u64 v)
    have hwz := hw9 _ hD10
    have hKz : Keep [] w (w9.setCell ⟨gu, k, none⟩ (.int .u64 v)) := (hK9.trans hk9).into hks (by simp; have := hK9.size; omega)
    clear hw9 hD8 hD9 hRu
    unfold u64 at ck
    go_wp2_with fail
    generalize w9.setCell ⟨gu, k, none⟩ (.int .u64 v) = wz at *
    (with_reducible refine hwz.mono ?_)
    rintro e w11 ⟨g11, cap11, rfl, hR11, hg11, hk11⟩
    have hsa := same_rows w11 28 28 g11 300 cap11 gu capu (of3 300 f k v).sure (fun i => if i = k then v else f i) (by omega) hR11 ((hR10.keep hk11 (by simp)).congr (fun i _ => by unfold u64; dsimp only; split <;> rfl)) (fun i _ => of3_sure hk i)
    clear hwz ck zk
    go_wp2_with fail
    (with_reducible refine hsa.mono ?_)
    rintro e w12 ⟨rfl, d12⟩
    have hss : Calls Try.prog 26 #[.pointer (some ⟨L.d, 0, none⟩)] w12 fun e w' => e = .returned (.int .i64 3) ∧ w12 = w' := by
      have := steps_any w12 L _ ((hD10.keep hk11 (by simp)).dr_ d12)
      rw [of3_steps hk] at this
      exact this
    clear hsa hR11 hR10
    go_wp2_with fail
    (with_reducible refine hss.mono ?_)
    rintro e w' ⟨rfl, rfl⟩
    go_wp2_with fail
    (with_reducible refine (awake_any w12).mono ?_)
    rintro e w13 ⟨rfl, k13⟩
    go_wp2
    go_ret
    exact ⟨rfl, ((hKz.trans hk11).trans (Keep.dr d12)).trans k13⟩
  · obtain rfl : n = len := by omega
    have h300' : ¬ (300 : Int) < (n : Int) := by omega
    clear hlen
    go_enter Try.func9, Try.ntmps9
    go_wp2_with fail
    (with_reducible refine ho.mono ?_)
    rintro e w1 ⟨L, rfl, hD, hf, hK⟩
    have hl : Calls Try.prog 24 #[.pointer (some ⟨L.d, 0, none⟩)] w1 fun e w' => e = .returned (.int .i64 n) ∧ w1 = w' := len_any w1 L _ hD
    have hs : Calls Try.prog 26 #[.pointer (some ⟨L.d, 0, none⟩)] w1 fun e w' => e = .returned (.int .i64 0) ∧ w1 = w' := steps_any w1 L _ hD
    have hw : Calls Try.prog 28 #[.pointer (some ⟨L.d, 0, none⟩)] w1 (RowPost 28 n (u64 f) w1) := words_any w1 L _ hD
    clear ho
    go_wp2_with fail
    (with_reducible refine hl.mono ?_)
    rintro e w' ⟨rfl, rfl⟩
    go_wp2_with fail
    (with_reducible refine hs.mono ?_)
    rintro e w' ⟨rfl, rfl⟩
    go_wp2_with fail
    (with_reducible refine hw.mono ?_)
    rintro e w2 ⟨g, cap, rfl, hR, hg, hk3⟩
    have hK2 := hK.trans hk3
    have hsm : ∀ (W : World) (g cap : Nat), Row W 28 g n cap (u64 f) → Keep [] w W → Calls Try.prog 29 #[.slice (some ⟨g, 0, none⟩) n cap, .slice (some ⟨b, o, none⟩) n c] W fun e w' => e = .returned (.bool true) ∧ Dr W w' := by
      intro W g cap hRW hKW
      have := same_any W g 0 cap b o c n f f (by omega) (fun j hj => by rw [Nat.zero_add]; exact hRW.cell hj) (fun j hj => (hKW.cell (p := ⟨b, o + j, none⟩) hb (by simp)).trans (HCE.out j hj))
      rw [eqB_true.2 (fun _ _ => rfl)] at this
      exact this
    have hsa := hsm w2 g cap hR hK2
    have HSM := Lib.hid hsm
    clear hl hs hw hsm hR
    go_wp2_with fail
    (with_reducible refine hsa.mono ?_)
    rintro e w3 ⟨rfl, d3⟩
    have hD3 := (hD.keep hk3 (by simp)).dr_ d3
    have hK3 := hK2.trans (Keep.dr d3)
    have hst : Calls Try.prog 21 #[.pointer (some ⟨L.d, 0, none⟩), .int .i64 k, .int .u64 v] w3 (Did L (of1 n f k v) w3 (.int .i64 0)) := by
      have := store_any w3 L _ hD3 k v (by simp [ofS]) (by simp [ofS])
      rw [of_ans1 hk] at this
      exact this
    clear hsa hD
    have hnz : ¬ (n : Int) = 0 := by omega
    have hnz2 : ((n : Int) == 0) = false := beq_eq_false_iff_ne.2 hnz
    go_wp2_with fail
    (with_reducible refine hst.mono ?_)
    rintro e w4 ⟨rfl, hD4, hK4⟩
    have hK5 := hK3.into hK4 hf
    have hw4 : Calls Try.prog 28 #[.pointer (some ⟨L.d, 0, none⟩)] w4 (RowPost 28 n (u64 f) w4) := by
      have := words_any w4 L _ hD4
      rw [of1_eq hk] at this
      exact this
    clear hst
    go_wp2_with fail
    (with_reducible refine hw4.mono ?_)
    rintro e w5 ⟨g5, cap5, rfl, hR5, hg5, hk5⟩
    have hsa := HSM.out w5 g5 cap5 hR5 (hK5.trans hk5)
    clear hw4
    go_wp2_with fail
    (with_reducible refine hsa.mono ?_)
    rintro e w6 ⟨rfl, d6⟩
    have hD6 := (hD4.keep hk5 (by simp)).dr_ d6
    have hK6 := (hK5.trans hk5).trans (Keep.dr d6)
    have hfl : Calls Try.prog 22 #[.pointer (some ⟨L.d, 0, none⟩), .int .i64 k] w6 (Did L (of2 n f k v) w6 (.int .i64 _)) := flush_any w6 L _ hD6 k (by rw [of1_eq hk]; simp [stepS, putS, ofS]) (by rw [of1_eq hk]; simp [stepS, putS, ofS])
    generalize ans (stepS (of1 n f k v)).off (hasB (of1 n f k v).n (k : Int)) = E1 at hfl
    clear hsa hD4 hR5 hK5 hk5
    go_wp2_with fail
    (with_reducible refine hfl.mono ?_)
    rintro e w7 ⟨rfl, hD7, hK7⟩
    have hK8 := hK6.into hK7 hf
    have hfe : Calls Try.prog 23 #[.pointer (some ⟨L.d, 0, none⟩)] w7 (Did L (of3 n f k v) w7 (.int .i64 _)) := fence_any w7 L _ hD7 (by rw [of2_eq hk]; simp [takeS, stepS, putS, ofS]) (by rw [of2_eq hk]; simp [takeS, stepS, putS, ofS])
    generalize ans (stepS (of2 n f k v)).off true = E2 at hfe
    clear hfl
    go_wp2_with fail
    (with_reducible refine hfe.mono ?_)
    rintro e w8 ⟨rfl, hD8, hK8'⟩
    have hK9 := hK8.into hK8' hf
    clear hfe hD7 hD6 hK8 hK7
    have hb8 : b < w8.heap.size := Nat.lt_of_lt_of_le hb hK9.size
    go_wp2_with (at_builtin; refine wpList_append_own_at _ rfl (.const (.slice none 0 0)) (.tmp 67) 48 rfl w8.heap.size 28 i0 (.int .u64 0) 1 8 Try.underlying48 hi0 hz0 hz1 hz2 rfl (by omega) (.slice none 0 0) 0 [] rfl (World.ownsRow_nil w8 w8.heap.size 28 1) ⟨b, o, none⟩ n c ((List.range n).map (u64 f)) rfl ?c1 ?c2 ?c3 ?c4 ?c5 ?c6 ?_)
    case c1 => simp
    case c2 =>
      intro j u hu
      have hj : j < n := by
        have := (List.getElem?_eq_some_iff.1 hu).1
        simpa using this
      have hu' : u64 f j = u := by simpa [hj] using hu
      rw [← hu']
      exact (hK9.cell (by rw [add_block]; exact hb) (by simp)).trans (HCA.out j hj)
    case c3 =>
      intro u hu
      simp only [List.mem_map, List.mem_range] at hu
      obtain ⟨j, _, rfl⟩ := hu
      rfl
    case c4 => first | (simp [maxLen]; done) | (simp [maxLen]; omega)
    case c5 => omega
    case c6 => omega
    intro v' w9 hown hgrow hnil hblk
    have hk9 : Keep [] w8 w9 := Keep.grown hgrow (fun k _ e => by simp [Value.ownBlock] at e)
    have hown' : w9.ownsRow w8.heap.size 28 1 v' n ((List.range n).map (u64 f)) := by simpa using hown
    obtain ⟨gu, capu, rfl, hRu, hgu⟩ := own_rowO hown' hn0
    have ck := hRu.cell hk
    have zk := hRu.frozen k
    have hgo : gu ∉ L.own := fun hm => by have := hD8.lt gu hm; omega
    have hD9 := hD8.keep hk9 (by simp)
    clear hown hown' hgrow hnil hblk
    have hki : (k : Int) < (n : Int) := by omega
    have hw9 : ∀ W : World, Dev W L (of3 n f k v) → Calls Try.prog 28 #[.pointer (some ⟨L.d, 0, none⟩)] W (RowPost 28 n (u64 (of3 n f k v).sure) W) := by
      intro W hW
      have := words_any W L _ hW
      have e : (of3 n f k v).n = n := by rw [of3_eq hk]; rfl
      rw [e] at this
      exact this
    have hks : Keep [gu] w9 (w9.setCell ⟨gu, k, none⟩ (.int .u64 v)) := Keep.setCell _ _ (by simp) _
    have hD10 := hD9.keep hks (by simpa using hgo)
    have hR10 := hRu.set_ k (.int .u64 v)
    have hwz := hw9 _ hD10
    have hKz : Keep [] w (w9.setCell ⟨gu, k, none⟩ (.int .u64 v)) := (hK9.trans hk9).into hks (by simp; have := hK9.size; omega)
    clear hw9 hD8 hD9 hRu
    unfold u64 at ck
    go_wp2_with fail
    generalize w9.setCell ⟨gu, k, none⟩ (.int .u64 v) = wz at *
    (with_reducible refine hwz.mono ?_)
    rintro e w11 ⟨g11, cap11, rfl, hR11, hg11, hk11⟩
    have hsa := same_rows w11 28 28 g11 n cap11 gu capu (of3 n f k v).sure (fun i => if i = k then v else f i) (by omega) hR11 ((hR10.keep hk11 (by simp)).congr (fun i _ => by unfold u64; dsimp only; split <;> rfl)) (fun i _ => of3_sure hk i)
    clear hwz ck zk
    go_wp2_with fail
    (with_reducible refine hsa.mono ?_)
    rintro e w12 ⟨rfl, d12⟩
    have hss : Calls Try.prog 26 #[.pointer (some ⟨L.d, 0, none⟩)] w12 fun e w' => e = .returned (.int .i64 3) ∧ w12 = w' := by
      have := steps_any w12 L _ ((hD10.keep hk11 (by simp)).dr_ d12)
      rw [of3_steps hk] at this
      exact this
    clear hsa hR11 hR10
    go_wp2_with fail
    (with_reducible refine hss.mono ?_)
    rintro e w' ⟨rfl, rfl⟩
    go_wp2_with fail
    (with_reducible refine (awake_any w12).mono ?_)
    rintro e w13 ⟨rfl, k13⟩
    go_wp2
    go_ret
    exact ⟨rfl, ((hKz.trans hk11).trans (Keep.dr d12)).trans k13⟩
end Go.Proofs.Ytjicfjnkammmcaa
