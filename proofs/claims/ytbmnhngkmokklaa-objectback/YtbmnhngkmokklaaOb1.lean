/-
  Rows of values in memory; which kind an object has (object.find, the twin's kindOf); few kinds of few fields (light). No conditions but what is in memory.
-/
import Derived.Test.YtbmnhngkmokklaaObm
import Derived.Test.YtbmnhngkmokklaaKnd4
import Derived.Test.YtbmnhngkmokklaaHdr3
import Derived.Test.YtbmnhngkmokklaaSrc8
import Derived.Test.YtbmnhngkmokklaaGrow
import Derived.Test.YtbmnhngkmokklaaCarg
namespace Go.Flo
open Go.RowKit Go.Bit

/-- Values in memory. -/
structure Vals (w : World) (A : Option Addr) (n cap : Nat) (F : Nat → Val) : Prop where
  nc : n ≤ cap
  cap : cap ≤ 9223372036854775807
  cells : 0 < n → ∃ b o, A = some ⟨b, o, none⟩ ∧ b < w.heap.size ∧ ∀ j, j < n → w.cell? ⟨b, o + j * 5, none⟩ = some (.int .i64 (F j).K) ∧ w.cell? ⟨b, o + j * 5 + 1, none⟩ = some (.int .i64 (F j).n) ∧
    w.cell? ⟨b, o + j * 5 + 2, none⟩ = some (.int .u64 (F j).p) ∧ w.cell? ⟨b, o + j * 5 + 3, none⟩ = some (.int .u64 (F j).q) ∧ w.cell? ⟨b, o + j * 5 + 4, none⟩ = some (.int .i64 (F j).r)

theorem Vals.keep {w w' : World} {A : Option Addr} {n cap : Nat} {F : Nat → Val} (h : Vals w A n cap F) (hk : Keep [] w w') : Vals w' A n cap F :=
  ⟨h.nc, h.cap, fun h0 => by
    obtain ⟨b, o, h1, h3, h4⟩ := h.cells h0
    refine ⟨b, o, h1, Nat.lt_of_lt_of_le h3 hk.size, fun j hj => ?_⟩
    obtain ⟨e0, e1, e2, e3, e4⟩ := h4 j hj
    exact ⟨(hk.cell (p := ⟨b, _, none⟩) h3 (by simp)).trans e0, (hk.cell (p := ⟨b, _, none⟩) h3 (by simp)).trans e1, (hk.cell (p := ⟨b, _, none⟩) h3 (by simp)).trans e2, (hk.cell (p := ⟨b, _, none⟩) h3 (by simp)).trans e3, (hk.cell (p := ⟨b, _, none⟩) h3 (by simp)).trans e4⟩⟩

theorem Vals.congr {w : World} {A : Option Addr} {n cap : Nat} {F F' : Nat → Val} (h : Vals w A n cap F) (he : ∀ j, j < n → F j = F' j) : Vals w A n cap F' :=
  ⟨h.nc, h.cap, fun h0 => by
    obtain ⟨b, o, h1, h3, h4⟩ := h.cells h0
    exact ⟨b, o, h1, h3, fun j hj => by rw [← he j hj]; exact h4 j hj⟩⟩

theorem Vals.none (w : World) (F : Nat → Val) : Vals w none 0 0 F := ⟨by omega, by omega, fun h => by omega⟩

/-- Is there such a kind, that may be? -/
def FindP (n : Nat) (m : Nat → Nat) (f : Nat → Nat → Int) (k : Int) : Prop := 0 ≤ k ∧ k < n ∧ k < 16 ∧ MayK (m k.toNat) (f k.toNat)
instance (n : Nat) (m : Nat → Nat) (f : Nat → Nat → Int) (k : Int) : Decidable (FindP n m f k) := by unfold FindP; infer_instance

/-- Few kinds, of few fields. -/
def Light11 (n : Nat) (m : Nat → Nat) : Prop := n ≤ 20 ∧ ∀ i, i < n → m i ≤ 30
instance (n : Nat) (m : Nat → Nat) : Decidable (Light11 n m) := by unfold Light11; infer_instance

def LiRel11 (w : World) (n : Nat) (m : Nat → Nat) (x : Value) (wr : World) : Prop := ∃ j : Nat, j ≤ n ∧ j ≤ 20 ∧ x = .int .i64 j ∧ (∀ i, i < j → m i ≤ 30) ∧ Keep [] w wr
end Go.Flo
namespace Go.Proofs.Ytbmnhngkmokklaa
open Go.RowKit Go.Flo Go.Bit
set_option maxRecDepth 100000

theorem k1c : (Try.prog.info? 47).map (·.size) = some 1 := by kernel_rfl

set_option maxHeartbeats 1000000 in
theorem find_no (w : World) (A : Option Addr) (n cap : Nat) (m : Nat → Nat) (f : Nat → Nat → Int) (k : Int) (h : KRow w A n cap m f) (hP : ¬ FindP n m f k) :
    Calls Try.prog 20 #[.slice A n cap, .int .i64 k] w fun e w' => e = .returned (.tuple #[.agg #[.slice none 0 0], .bool false]) ∧ Keep [] w w' := by
  have ka : Keep [] w (w.alloc (.cells #[.slice none 0 0] 47)) := Keep.alloc _ _
  have hnc := h.nc
  have hcm := h.cap
  by_cases c1 : k < 0
  · clear h hP
    go_enter Try.func20, Try.ntmps20
    go_wp2
    (try simp only [Exit.inBlock, Exit.then])
    refine bodyPost_ret (v := .tuple #[.agg #[.slice none 0 0], .bool false]) (results_cell_tmp rfl _ _ w.heap.size 47 #[.slice none 0 0] (0, 0) _ _ rfl rfl (heap_alloc_new _ _) Try.underlying47 rfl k1c) rfl ?_
    exact ⟨rfl, ka⟩
  by_cases c2 : (n : Int) ≤ k
  · clear h hP
    go_enter Try.func20, Try.ntmps20
    go_wp2
    (try simp only [Exit.inBlock, Exit.then])
    refine bodyPost_ret (v := .tuple #[.agg #[.slice none 0 0], .bool false]) (results_cell_tmp rfl _ _ w.heap.size 47 #[.slice none 0 0] (0, 0) _ _ rfl rfl (heap_alloc_new _ _) Try.underlying47 rfl k1c) rfl ?_
    exact ⟨rfl, ka⟩
  by_cases c3 : 16 ≤ k
  · have c4 : 15 < k := by omega
    clear h hP
    go_enter Try.func20, Try.ntmps20
    go_wp2
    (try simp only [Exit.inBlock, Exit.then])
    refine bodyPost_ret (v := .tuple #[.agg #[.slice none 0 0], .bool false]) (results_cell_tmp rfl _ _ w.heap.size 47 #[.slice none 0 0] (0, 0) _ _ rfl rfl (heap_alloc_new _ _) Try.underlying47 rfl k1c) rfl ?_
    exact ⟨rfl, ka⟩
  obtain ⟨K, rfl⟩ : ∃ K : Nat, k = K := ⟨k.toNat, by omega⟩
  have hM : ¬ MayK (m K) (f K) := fun hM => hP ⟨by omega, by omega, by omega, by simpa using hM⟩
  obtain ⟨b, o, rfl, hb, hc⟩ := h.cells (by omega)
  obtain ⟨A', c', cj, hI⟩ := hc K (by omega)
  have hmay := kmay_any (w.alloc (.cells #[.slice none 0 0] 47)) A' (m K) c' (f K) (hI.keep ka)
  rw [show decide (MayK (m K) (f K)) = false from decide_eq_false hM] at hmay
  have hB := Blk.new w 47 #[.slice none 0 0]
  have c5 : ¬ 15 < (K : Int) := by omega
  have cja : (w.alloc (.cells #[.slice none 0 0] 47)).cell? ⟨b, o + K, none⟩ = some (.slice A' (m K) c') := (ka.cell (p := ⟨b, _, none⟩) hb (by simp)).trans cj
  generalize m K = mK at *
  clear hc hI h hP hM
  go_enter Try.func20, Try.ntmps20
  go_wp2_with fail
  (with_reducible refine hmay.mono ?_)
  rintro e w3 ⟨rfl, k3⟩
  have hB3 := hB.keep k3 (by simp)
  have y0 := (hB3.cell 0).trans (show _ = some (Value.slice none 0 0) from rfl)
  have y1 := hB3.frozen 0
  go_wp2
  (try simp only [Exit.inBlock, Exit.then])
  have hB5 : Blk (w3.setCell ⟨w.heap.size, 0, none⟩ (.slice none 0 0)) w.heap.size 47 #[.slice none 0 0] := hB3.set_ 0 _
  refine bodyPost_ret (v := .tuple #[.agg #[.slice none 0 0], .bool false]) ?_ rfl ?_
  · exact results_cell_tmp rfl _ _ w.heap.size 47 #[.slice none 0 0] (0, 0) _ _ rfl rfl hB5 Try.underlying47 rfl k1c
  exact ⟨rfl, (ka.trans k3).since (own := [w.heap.size]) (Keep.setCell _ _ (by simp) _) (by simp)⟩

set_option maxHeartbeats 1000000 in
theorem kof_no (w : World) (A : Option Addr) (n cap : Nat) (m : Nat → Nat) (f : Nat → Nat → Int) (k : Int) (h : KRow w A n cap m f) (hP : ¬ FindP n m f k) :
    Calls Try.prog 22 #[.slice A n cap, .int .i64 k] w fun e w' => e = .returned (.tuple #[.agg #[.slice none 0 0], .bool false]) ∧ Keep [] w w' := by
  have ka : Keep [] w (w.alloc (.cells #[.slice none 0 0] 47)) := Keep.alloc _ _
  have hnc := h.nc
  have hcm := h.cap
  by_cases c1 : k < 0
  · clear h hP
    go_enter Try.func22, Try.ntmps22
    go_wp2
    (try simp only [Exit.inBlock, Exit.then])
    refine bodyPost_ret (v := .tuple #[.agg #[.slice none 0 0], .bool false]) (results_cell_tmp rfl _ _ w.heap.size 47 #[.slice none 0 0] (0, 0) _ _ rfl rfl (heap_alloc_new _ _) Try.underlying47 rfl k1c) rfl ?_
    exact ⟨rfl, ka⟩
  by_cases c2 : (n : Int) ≤ k
  · clear h hP
    go_enter Try.func22, Try.ntmps22
    go_wp2
    (try simp only [Exit.inBlock, Exit.then])
    refine bodyPost_ret (v := .tuple #[.agg #[.slice none 0 0], .bool false]) (results_cell_tmp rfl _ _ w.heap.size 47 #[.slice none 0 0] (0, 0) _ _ rfl rfl (heap_alloc_new _ _) Try.underlying47 rfl k1c) rfl ?_
    exact ⟨rfl, ka⟩
  by_cases c3 : 16 ≤ k
  · have c4 : 15 < k := by omega
    clear h hP
    go_enter Try.func22, Try.ntmps22
    go_wp2
    (try simp only [Exit.inBlock, Exit.then])
    refine bodyPost_ret (v := .tuple #[.agg #[.slice none 0 0], .bool false]) (results_cell_tmp rfl _ _ w.heap.size 47 #[.slice none 0 0] (0, 0) _ _ rfl rfl (heap_alloc_new _ _) Try.underlying47 rfl k1c) rfl ?_
    exact ⟨rfl, ka⟩
  obtain ⟨K, rfl⟩ : ∃ K : Nat, k = K := ⟨k.toNat, by omega⟩
  have hM : ¬ MayK (m K) (f K) := fun hM => hP ⟨by omega, by omega, by omega, by simpa using hM⟩
  obtain ⟨b, o, rfl, hb, hc⟩ := h.cells (by omega)
  obtain ⟨A', c', cj, hI⟩ := hc K (by omega)
  have hmay := rmayKind_any (w.alloc (.cells #[.slice none 0 0] 47)) A' (m K) c' (f K) (hI.keep ka)
  rw [show decide (MayK (m K) (f K)) = false from decide_eq_false hM] at hmay
  have hB := Blk.new w 47 #[.slice none 0 0]
  have c5 : ¬ 15 < (K : Int) := by omega
  have cja : (w.alloc (.cells #[.slice none 0 0] 47)).cell? ⟨b, o + K, none⟩ = some (.slice A' (m K) c') := (ka.cell (p := ⟨b, _, none⟩) hb (by simp)).trans cj
  generalize m K = mK at *
  clear hc hI h hP hM
  go_enter Try.func22, Try.ntmps22
  go_wp2_with fail
  (with_reducible refine hmay.mono ?_)
  rintro e w3 ⟨rfl, k3⟩
  have hB3 := hB.keep k3 (by simp)
  have y0 := (hB3.cell 0).trans (show _ = some (Value.slice none 0 0) from rfl)
  have y1 := hB3.frozen 0
  go_wp2
  (try simp only [Exit.inBlock, Exit.then])
  have hB5 : Blk (w3.setCell ⟨w.heap.size, 0, none⟩ (.slice none 0 0)) w.heap.size 47 #[.slice none 0 0] := hB3.set_ 0 _
  refine bodyPost_ret (v := .tuple #[.agg #[.slice none 0 0], .bool false]) ?_ rfl ?_
  · exact results_cell_tmp rfl _ _ w.heap.size 47 #[.slice none 0 0] (0, 0) _ _ rfl rfl hB5 Try.underlying47 rfl k1c
  exact ⟨rfl, (ka.trans k3).since (own := [w.heap.size]) (Keep.setCell _ _ (by simp) _) (by simp)⟩

set_option maxHeartbeats 1000000 in
theorem find_yes (w : World) (n cap K mK c' b o : Nat) (A' : Option Addr) (fK : Nat → Int) (hnc : n ≤ cap) (hcm : cap ≤ 9223372036854775807) (h1 : K < n) (h2 : K < 16) (hb : b < w.heap.size) (cj : w.cell? ⟨b, o + K, none⟩ = some (.slice A' mK c')) (hI : Ints w A' mK c' fK) (hM : MayK mK fK) :
    Calls Try.prog 20 #[.slice (some ⟨b, o, none⟩) n cap, .int .i64 K] w fun e w' => e = .returned (.tuple #[.agg #[.slice A' mK c'], .bool true]) ∧ Keep [] w w' := by
  have ka : Keep [] w (w.alloc (.cells #[.slice none 0 0] 47)) := Keep.alloc _ _
  have hmay := kmay_any (w.alloc (.cells #[.slice none 0 0] 47)) A' mK c' fK (hI.keep ka)
  rw [show decide (MayK mK fK) = true from decide_eq_true hM] at hmay
  have hB := Blk.new w 47 #[.slice none 0 0]
  have k61 : (Try.prog.info? 47).map (·.size) = some (#[.slice A' mK c'] : Array Value).size := by kernel_rfl
  have cja : (w.alloc (.cells #[.slice none 0 0] 47)).cell? ⟨b, o + K, none⟩ = some (.slice A' mK c') := (ka.cell (p := ⟨b, _, none⟩) hb (by simp)).trans cj
  have hba : b < (w.alloc (.cells #[.slice none 0 0] 47)).heap.size := Nat.lt_of_lt_of_le hb ka.size
  clear hI hM
  go_enter Try.func20, Try.ntmps20
  go_wp2_with fail
  (with_reducible refine hmay.mono ?_)
  rintro e w3 ⟨rfl, k3⟩
  have hB3 := hB.keep k3 (by simp)
  have y0 := (hB3.cell 0).trans (show _ = some (Value.slice none 0 0) from rfl)
  have y1 := hB3.frozen 0
  have cj3 := (k3.cell (p := ⟨b, o + K, none⟩) hba (by simp)).trans cja
  go_wp2
  (try simp only [Exit.inBlock, Exit.then])
  have hB5 : Blk (w3.setCell ⟨w.heap.size, 0, none⟩ (.slice A' mK c')) w.heap.size 47 #[.slice A' mK c'] := hB3.set_ 0 _
  refine bodyPost_ret (v := .tuple #[.agg #[.slice A' mK c'], .bool true]) ?_ rfl ?_
  · exact results_cell_tmp rfl _ _ w.heap.size 47 #[.slice A' mK c'] (0, 0) _ _ rfl rfl hB5 Try.underlying47 rfl k61
  exact ⟨rfl, (ka.trans k3).since (own := [w.heap.size]) (Keep.setCell _ _ (by simp) _) (by simp)⟩

set_option maxHeartbeats 1000000 in
theorem kof_yes (w : World) (n cap K mK c' b o : Nat) (A' : Option Addr) (fK : Nat → Int) (hnc : n ≤ cap) (hcm : cap ≤ 9223372036854775807) (h1 : K < n) (h2 : K < 16) (hb : b < w.heap.size) (cj : w.cell? ⟨b, o + K, none⟩ = some (.slice A' mK c')) (hI : Ints w A' mK c' fK) (hM : MayK mK fK) :
    Calls Try.prog 22 #[.slice (some ⟨b, o, none⟩) n cap, .int .i64 K] w fun e w' => e = .returned (.tuple #[.agg #[.slice A' mK c'], .bool true]) ∧ Keep [] w w' := by
  have ka : Keep [] w (w.alloc (.cells #[.slice none 0 0] 47)) := Keep.alloc _ _
  have hmay := rmayKind_any (w.alloc (.cells #[.slice none 0 0] 47)) A' mK c' fK (hI.keep ka)
  rw [show decide (MayK mK fK) = true from decide_eq_true hM] at hmay
  have hB := Blk.new w 47 #[.slice none 0 0]
  have k61 : (Try.prog.info? 47).map (·.size) = some (#[.slice A' mK c'] : Array Value).size := by kernel_rfl
  have cja : (w.alloc (.cells #[.slice none 0 0] 47)).cell? ⟨b, o + K, none⟩ = some (.slice A' mK c') := (ka.cell (p := ⟨b, _, none⟩) hb (by simp)).trans cj
  have hba : b < (w.alloc (.cells #[.slice none 0 0] 47)).heap.size := Nat.lt_of_lt_of_le hb ka.size
  clear hI hM
  go_enter Try.func22, Try.ntmps22
  go_wp2_with fail
  (with_reducible refine hmay.mono ?_)
  rintro e w3 ⟨rfl, k3⟩
  have hB3 := hB.keep k3 (by simp)
  have y0 := (hB3.cell 0).trans (show _ = some (Value.slice none 0 0) from rfl)
  have y1 := hB3.frozen 0
  have cj3 := (k3.cell (p := ⟨b, o + K, none⟩) hba (by simp)).trans cja
  go_wp2
  (try simp only [Exit.inBlock, Exit.then])
  have hB5 : Blk (w3.setCell ⟨w.heap.size, 0, none⟩ (.slice A' mK c')) w.heap.size 47 #[.slice A' mK c'] := hB3.set_ 0 _
  refine bodyPost_ret (v := .tuple #[.agg #[.slice A' mK c'], .bool true]) ?_ rfl ?_
  · exact results_cell_tmp rfl _ _ w.heap.size 47 #[.slice A' mK c'] (0, 0) _ _ rfl rfl hB5 Try.underlying47 rfl k61
  exact ⟨rfl, (ka.trans k3).since (own := [w.heap.size]) (Keep.setCell _ _ (by simp) _) (by simp)⟩

set_option maxHeartbeats 1000000 in
theorem light11_any (w : World) (A : Option Addr) (n cap : Nat) (m : Nat → Nat) (f : Nat → Nat → Int) (h : KRow w A n cap m f) :
    Calls Try.prog 8 #[.slice A n cap] w fun e w' => e = .returned (.bool (decide (Light11 n m))) ∧ Keep [] w w' := by
  have HI := Lib.hid h
  have hnc := h.nc
  have hcm := h.cap
  clear h
  go_enter Try.func8, Try.ntmps8
  go_wp2
  go_loopw [7] (fun x wr => LiRel11 w n m x wr) (fun x _ => n - (intOf x).toNat)
  case atStart => exact ⟨0, by omega, by omega, rfl, fun i hi => by omega, Keep.refl _ _⟩
  case round =>
  obtain ⟨j, hj, hj20, rfl, hok, hK⟩ := hrel
  have HO := Lib.hid hok
  clear hok
  by_cases hlt : j < n
  case neg =>
    obtain rfl : j = n := by omega
    have HD := Lib.hid (show decide (Light11 j m) = true from decide_eq_true ⟨hj20, HO.out⟩)
    go_wp2
    go_ret
    exact ⟨by rw [HD.out]; rfl, hK⟩
  obtain ⟨b, o, rfl, hb, hc⟩ := (HI.out.keep hK).cells (by omega)
  obtain ⟨A', c', cj, hI⟩ := hc j hlt
  clear hc hI
  have k2 : Keep [] wr (wr.alloc (.cells #[.slice A' (m j) c'] 47)) := Keep.alloc _ _
  by_cases h20 : 20 ≤ j
  · have HD := Lib.hid (show decide (Light11 n m) = false from decide_eq_false (fun hx => by have := hx.1; omega))
    go_wp2
    go_ret
    exact ⟨by rw [HD.out]; rfl, hK.trans k2⟩
  by_cases hM : m j ≤ 30
  · go_wp2
    go_roundw
    case rel => exact ⟨j + 1, by omega, by omega, by go_num, fun i hi => by
      rcases Nat.lt_or_ge i j with h | h
      · exact HO.out i h
      · rw [show i = j by omega]; exact hM, hK.trans k2⟩
    case measure => simp [intOf]; omega
  · have HD := Lib.hid (show decide (Light11 n m) = false from decide_eq_false (fun hx => hM (hx.2 j hlt)))
    go_wp2
    go_ret
    exact ⟨by rw [HD.out]; rfl, hK.trans k2⟩
end Go.Proofs.Ytbmnhngkmokklaa
