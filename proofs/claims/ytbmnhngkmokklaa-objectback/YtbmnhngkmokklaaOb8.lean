/-
  The document's twin's SameValues; scullionlaw11.awake. No conditions but what is in memory.
-/
import Derived.Test.YtbmnhngkmokklaaOb7
namespace Go.Flo
open Go.RowKit Go.Bit

/-- Are two rows of values the same? -/
def SameVs (n : Nat) (F : Nat → Val) (n' : Nat) (F' : Nat → Val) : Prop := n = n' ∧ ∀ i, i < n → sameV (F i) (F' i) = true
instance (n : Nat) (F : Nat → Val) (n' : Nat) (F' : Nat → Val) : Decidable (SameVs n F n' F') := by unfold SameVs; infer_instance

def SvRel (w : World) (n : Nat) (F F' : Nat → Val) (x : Value) (wr : World) : Prop := ∃ j : Nat, j ≤ n ∧ x = .int .i64 j ∧ (∀ i, i < j → sameV (F i) (F' i) = true) ∧ Keep [] w wr
end Go.Flo
namespace Go.Proofs.Ytbmnhngkmokklaa
open Go.RowKit Go.Flo Go.Bit
set_option maxRecDepth 100000

set_option maxHeartbeats 1000000 in
theorem rsvs_any (w : World) (A B : Option Addr) (n c n' c' : Nat) (F F' : Nat → Val) (h : Vals w A n c F) (h' : Vals w B n' c' F') :
    Calls Try.prog 17 #[.slice A n c, .slice B n' c'] w fun e w' => e = .returned (.bool (decide (SameVs n F n' F'))) ∧ Keep [] w w' := by
  have hnc := h.nc
  have hcm := h.cap
  have hnc' := h'.nc
  have hcm' := h'.cap
  by_cases hn : n = n'
  case neg =>
    rw [show decide (SameVs n F n' F') = false from decide_eq_false (fun e => hn e.1)]
    have t1 : ((n : Int) == n') = false := by simp; omega
    have t2 : ((n : Int) != n') = true := by simp; omega
    clear h h'
    go_enter Try.func17, Try.ntmps17
    go_wp2
    go_ret
    exact ⟨rfl, Keep.refl _ _⟩
  subst hn
  have HA := Lib.hid h
  have HB := Lib.hid h'
  have t1 : ((n : Int) == n) = true := by simp
  have t2 : ((n : Int) != n) = false := by simp
  clear h h'
  go_enter Try.func17, Try.ntmps17
  go_wp2
  go_loopw [13] (fun x wr => SvRel w n F F' x wr) (fun x _ => n - (intOf x).toNat)
  case atStart => exact ⟨0, by omega, rfl, fun i hi => by omega, Keep.refl _ _⟩
  case round =>
  obtain ⟨j, hj, rfl, hok, hK⟩ := hrel
  have HO := Lib.hid hok
  clear hok
  by_cases hlt : j < n
  case neg =>
    obtain rfl : j = n := by omega
    have HD := Lib.hid (show decide (SameVs j F j F') = true from decide_eq_true ⟨rfl, HO.out⟩)
    go_wp2
    go_ret
    exact ⟨by rw [HD.out]; rfl, hK⟩
  obtain ⟨bA, oA, rfl, hbA, hcA⟩ := (HA.out.keep hK).cells (by omega)
  obtain ⟨bB, oB, rfl, hbB, hcB⟩ := (HB.out.keep hK).cells (by omega)
  obtain ⟨a0, a1, a2, a3, a4⟩ := hcA j hlt
  obtain ⟨b0, b1, b2, b3, b4⟩ := hcB j hlt
  have hs : ∀ W, Calls Try.prog 18 #[.agg #[.int .i64 (F j).K, .int .i64 (F j).n, .int .u64 (F j).p, .int .u64 (F j).q, .int .i64 (F j).r], .agg #[.int .i64 (F' j).K, .int .i64 (F' j).n, .int .u64 (F' j).p, .int .u64 (F' j).q, .int .i64 (F' j).r]] W fun e w' => e = .returned (.bool (sameV (F j) (F' j))) ∧ Keep [] W w' := fun W => rvsame_any _ _ _ _ _ _ _ _ _ _ W
  obtain ⟨ok, hk⟩ : ∃ ok, sameV (F j) (F' j) = ok := ⟨_, rfl⟩
  rw [hk] at hs
  have HKK := Lib.hid (And.intro hk hK)
  clear hk hK hcA hcB
  generalize (F j).K = x0 at *
  generalize (F j).n = x1 at *
  generalize (F j).p = x2 at *
  generalize (F j).q = x3 at *
  generalize (F j).r = x4 at *
  generalize (F' j).K = y0 at *
  generalize (F' j).n = y1 at *
  generalize (F' j).p = y2 at *
  generalize (F' j).q = y3 at *
  generalize (F' j).r = y4 at *
  go_upto_region 6 with fail
  go_cut [13, 25] from 13 to 26 (fun s13 s25 wx => s13 = .int .i64 j ∧ s25 = .bool (!ok) ∧ Keep [] wr wx)
  case first =>
    go_wp2_with fail
    go_region_with (go_at_call 18; refine (hs _).mono ?_; rintro e w4 ⟨rfl, k4⟩)
    all_goals
      go_wp2_with fail
      go_meet
      exact ⟨rfl, rfl, (by repeat (first | exact k4 | (with_reducible refine Keep.trans ?_ (Keep.drew _)) | (with_reducible refine Keep.trans (Keep.drew _) ?_)))⟩
  case rest =>
  obtain ⟨rfl, rfl, k4⟩ := hcut
  have HK := Lib.hid (HKK.out.2.trans k4)
  have hk := HKK.out.1
  clear a0 a1 a2 a3 a4 b0 b1 b2 b3 b4 hs k4 HKK
  cases ok with
  | false =>
    have HD := Lib.hid (show decide (SameVs n F n F') = false from decide_eq_false (fun e => by have := e.2 j hlt; rw [hk] at this; cases this))
    clear hk
    go_wp2
    go_ret
    exact ⟨by rw [HD.out]; rfl, HK.out⟩
  | true =>
    have HE := Lib.hid hk
    clear hk
    go_wp2
    go_roundw
    case rel => exact ⟨j + 1, by omega, by go_num, fun i hi => by
      rcases Nat.lt_or_ge i j with h | h
      · exact HO.out i h
      · rw [show i = j by omega]; exact HE.out, HK.out⟩
    case measure => simp [intOf]; omega

def awF : Nat → Val := fun j => if j = 0 then ⟨1, 7, 0, 0, 0⟩ else z0
def awf11 : Nat → Int := fun j => if j = 0 then 1 else 3

theorem aw_enc : encE 1 (fun _ => 2) (fun _ => awf11) 0 2 awF 3 = (some [((hd 0 3 3 : Nat) : Int), 7, 0], 0) := by
  unfold encE
  rw [if_pos (by decide), if_pos rfl]
  rfl

set_option maxHeartbeats 1000000 in
theorem awake11_any (w : World) : Calls Try.prog 9 #[] w fun e w' => e = .returned (.bool true) ∧ Keep [] w w' := by
  have b1 := Blk.new w 3 #[.int .i64 1, .int .i64 3]
  have k1 : Keep [] w (w.alloc (.cells #[.int .i64 1, .int .i64 3] 3)) := Keep.alloc _ _
  obtain ⟨w1, hw1⟩ : ∃ w1, w1 = w.alloc (.cells #[.int .i64 1, .int .i64 3] 3) := ⟨_, rfl⟩
  rw [← hw1] at b1 k1
  have b2 := Blk.new w1 47 #[.slice (some ⟨w.heap.size, 0, none⟩) 2 2]
  have k2 : Keep [] w1 (w1.alloc (.cells #[.slice (some ⟨w.heap.size, 0, none⟩) 2 2] 47)) := Keep.alloc _ _
  have b12 := b1.keep k2 (by simp)
  obtain ⟨w2, hw2⟩ : ∃ w2, w2 = w1.alloc (.cells #[.slice (some ⟨w.heap.size, 0, none⟩) 2 2] 47) := ⟨_, rfl⟩
  rw [← hw2] at b12 b2 k2
  have b3 := Blk.new w2 26 #[.int .i64 1, .int .i64 7, .int .u64 0, .int .u64 0, .int .i64 0, .int .i64 0, .int .i64 0, .int .u64 0, .int .u64 0, .int .i64 0]
  have k3 : Keep [] w2 (w2.alloc (.cells #[.int .i64 1, .int .i64 7, .int .u64 0, .int .u64 0, .int .i64 0, .int .i64 0, .int .i64 0, .int .u64 0, .int .u64 0, .int .i64 0] 26)) := Keep.alloc _ _
  have b13 := b12.keep k3 (by simp)
  have b23 := b2.keep k3 (by simp)
  obtain ⟨w3, hw3⟩ : ∃ w3, w3 = w2.alloc (.cells #[.int .i64 1, .int .i64 7, .int .u64 0, .int .u64 0, .int .i64 0, .int .i64 0, .int .i64 0, .int .u64 0, .int .u64 0, .int .i64 0] 26) := ⟨_, rfl⟩
  rw [← hw3] at b13 b23 b3 k3
  have hI : Ints w3 (some ⟨w.heap.size, 0, none⟩) 2 2 awf11 := ⟨Nat.le_refl _, fun e => (by cases e), by omega, fun _ => ⟨w.heap.size, 0, rfl, b13.lt, fun j hj => by
    match j, hj with
    | 0, _ => exact b13.cell 0
    | 1, _ => exact b13.cell 1⟩⟩
  have hKR : KRow w3 (some ⟨w1.heap.size, 0, none⟩) 1 1 (fun _ => 2) (fun _ => awf11) := ⟨Nat.le_refl _, by omega, fun _ => ⟨w1.heap.size, 0, rfl, b23.lt, fun i hi => by
    obtain rfl : i = 0 := by omega
    exact ⟨_, 2, b23.cell 0, hI⟩⟩⟩
  have hVR : Vals w3 (some ⟨w2.heap.size, 0, none⟩) 2 2 awF := ⟨Nat.le_refl _, by omega, fun _ => ⟨w2.heap.size, 0, rfl, b3.lt, fun j hj => by
    match j, hj with
    | 0, _ => exact ⟨b3.cell 0, b3.cell 1, b3.cell 2, b3.cell 3, b3.cell 4⟩
    | 1, _ => exact ⟨b3.cell 5, b3.cell 6, b3.cell 7, b3.cell 8, b3.cell 9⟩⟩⟩
  have hE := enc_any w3 _ _ 1 1 2 2 3 (fun _ => 2) (fun _ => awf11) 0 awF hKR hVR (by decide)
  rw [aw_enc] at hE
  unfold EncPost at hE
  dsimp only at hE
  simp only [Option.getD_some, List.length_cons, List.length_nil] at hE
  generalize ((hd 0 3 3 : Nat) : Int) = H at hE
  have e1 : w1.heap.size = w.heap.size + 1 := by rw [hw1]; simp
  have e2 : w2.heap.size = w.heap.size + 1 + 1 := by rw [hw2]; simp [e1]
  have e3 : ((3 : Nat) : Int) = 3 := rfl
  have k03 := (k1.trans k2).trans k3
  rw [e1, e2, e3] at hE
  subst hw1
  subst hw2
  have HE := Lib.hid (And.intro hE (And.intro hw3 k03))
  clear hE hw3 k03 b1 b2 b3 b12 b13 b23 k1 k2 k3 hI hKR hVR e1 e2
  go_enter Try.func9, Try.ntmps9
  go_wp2_with fail
  rw [← HE.out.2.1]
  (with_reducible refine HE.out.1.mono ?_)
  rintro e w4 ⟨A4, c4, rfl, h1, h2, h3, k4⟩
  obtain ⟨b, o, rfl, hb, hc⟩ := h3.cells (by simp)
  have q1 : w4.cell? ⟨b, o + 1, none⟩ = some (.int .u64 7) := hc 1 (by simp)
  have q2 : w4.cell? ⟨b, o + 2, none⟩ = some (.int .u64 0) := hc 2 (by simp)
  have HK := Lib.hid (HE.out.2.2.trans k4)
  clear hc h3 k4
  go_wp2
  go_ret
  exact ⟨rfl, HK.out⟩
end Go.Proofs.Ytbmnhngkmokklaa
