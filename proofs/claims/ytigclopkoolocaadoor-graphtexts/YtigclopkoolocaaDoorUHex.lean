/-
  What strconv.FormatUint returns at base 16, and the statements' own twin of Text, for every number. Conditions: the library's table math/bits.deBruijn64tab holds what its text lays.
-/
import Derived.Test.YtigclopkoolocaaDoorURef
namespace Go.Proofs.YtigclopkoolocaaDoor
open Go.RowKit Go.Flo

theorem tz_16 (w : World) (hT : w.cell? ⟨3, 15, none⟩ = some (.int .u8 4)) : Calls Tryd.prog 77 #[.int .u64 16] w fun e w' => e = .returned (.int .i64 4) ∧ w = w' := by
  have e1 : bits BinOp.and IntKind.u64 16 (IntKind.u64.wrap (-16)) = 16 := by decide
  have e2 : IntKind.u64.wrap 4573923408821661840 = 4573923408821661840 := by decide
  go_enter Tryd.func77, Tryd.ntmps77
  go_wp2
  go_ret
  exact ⟨rfl, rfl⟩

theorem tz16 (w : World) (hT : w.cell? ⟨3, 15, none⟩ = some (.int .u8 4)) : Calls Tryd.prog 73 #[.int .u64 16] w fun e w' => e = .returned (.int .i64 4) ∧ w = w' := by
  go_enter Tryd.func73, Tryd.ntmps73
  go_wp2_with (go_at_call 77; refine (tz_16 _ hT).mono ?_; rintro e w' ⟨rfl, rfl⟩)
  go_ret
  exact ⟨rfl, rfl⟩

theorem pow2_16 (w : World) : Calls Tryd.prog 72 #[.int .i64 16] w fun e w' => e = .returned (.bool true) ∧ w = w' := by
  have t : (bits BinOp.and IntKind.i64 16 15 == 0) = true := by decide
  go_enter Tryd.func72, Tryd.ntmps72
  go_wp2
  go_ret
  exact ⟨rfl, rfl⟩

def zs65 : Array Value := Array.replicate 65 (.int .u8 0)
theorem zero65 (w : World) : (zeroValue 107).run Tryd.prog w = .ok (.agg zs65) w := by kernel_rfl

theorem index36_0 (w : World) : (Instr.index 9 (.string { data := #[48, 49, 50, 51, 52, 53, 54, 55, 56, 57, 97, 98, 99, 100, 101, 102, 103, 104, 105, 106, 107, 108, 109, 110, 111, 112, 113, 114, 115, 116, 117, 118, 119, 120, 121, 122] }) (.int .u64 0)).run Tryd.prog w = .ok (.int .u8 48) w := by kernel_rfl
theorem index36_1 (w : World) : (Instr.index 9 (.string { data := #[48, 49, 50, 51, 52, 53, 54, 55, 56, 57, 97, 98, 99, 100, 101, 102, 103, 104, 105, 106, 107, 108, 109, 110, 111, 112, 113, 114, 115, 116, 117, 118, 119, 120, 121, 122] }) (.int .u64 1)).run Tryd.prog w = .ok (.int .u8 49) w := by kernel_rfl
theorem index36_2 (w : World) : (Instr.index 9 (.string { data := #[48, 49, 50, 51, 52, 53, 54, 55, 56, 57, 97, 98, 99, 100, 101, 102, 103, 104, 105, 106, 107, 108, 109, 110, 111, 112, 113, 114, 115, 116, 117, 118, 119, 120, 121, 122] }) (.int .u64 2)).run Tryd.prog w = .ok (.int .u8 50) w := by kernel_rfl
theorem index36_3 (w : World) : (Instr.index 9 (.string { data := #[48, 49, 50, 51, 52, 53, 54, 55, 56, 57, 97, 98, 99, 100, 101, 102, 103, 104, 105, 106, 107, 108, 109, 110, 111, 112, 113, 114, 115, 116, 117, 118, 119, 120, 121, 122] }) (.int .u64 3)).run Tryd.prog w = .ok (.int .u8 51) w := by kernel_rfl
theorem index36_4 (w : World) : (Instr.index 9 (.string { data := #[48, 49, 50, 51, 52, 53, 54, 55, 56, 57, 97, 98, 99, 100, 101, 102, 103, 104, 105, 106, 107, 108, 109, 110, 111, 112, 113, 114, 115, 116, 117, 118, 119, 120, 121, 122] }) (.int .u64 4)).run Tryd.prog w = .ok (.int .u8 52) w := by kernel_rfl
theorem index36_5 (w : World) : (Instr.index 9 (.string { data := #[48, 49, 50, 51, 52, 53, 54, 55, 56, 57, 97, 98, 99, 100, 101, 102, 103, 104, 105, 106, 107, 108, 109, 110, 111, 112, 113, 114, 115, 116, 117, 118, 119, 120, 121, 122] }) (.int .u64 5)).run Tryd.prog w = .ok (.int .u8 53) w := by kernel_rfl
theorem index36_6 (w : World) : (Instr.index 9 (.string { data := #[48, 49, 50, 51, 52, 53, 54, 55, 56, 57, 97, 98, 99, 100, 101, 102, 103, 104, 105, 106, 107, 108, 109, 110, 111, 112, 113, 114, 115, 116, 117, 118, 119, 120, 121, 122] }) (.int .u64 6)).run Tryd.prog w = .ok (.int .u8 54) w := by kernel_rfl
theorem index36_7 (w : World) : (Instr.index 9 (.string { data := #[48, 49, 50, 51, 52, 53, 54, 55, 56, 57, 97, 98, 99, 100, 101, 102, 103, 104, 105, 106, 107, 108, 109, 110, 111, 112, 113, 114, 115, 116, 117, 118, 119, 120, 121, 122] }) (.int .u64 7)).run Tryd.prog w = .ok (.int .u8 55) w := by kernel_rfl
theorem index36_8 (w : World) : (Instr.index 9 (.string { data := #[48, 49, 50, 51, 52, 53, 54, 55, 56, 57, 97, 98, 99, 100, 101, 102, 103, 104, 105, 106, 107, 108, 109, 110, 111, 112, 113, 114, 115, 116, 117, 118, 119, 120, 121, 122] }) (.int .u64 8)).run Tryd.prog w = .ok (.int .u8 56) w := by kernel_rfl
theorem index36_9 (w : World) : (Instr.index 9 (.string { data := #[48, 49, 50, 51, 52, 53, 54, 55, 56, 57, 97, 98, 99, 100, 101, 102, 103, 104, 105, 106, 107, 108, 109, 110, 111, 112, 113, 114, 115, 116, 117, 118, 119, 120, 121, 122] }) (.int .u64 9)).run Tryd.prog w = .ok (.int .u8 57) w := by kernel_rfl
theorem index36_10 (w : World) : (Instr.index 9 (.string { data := #[48, 49, 50, 51, 52, 53, 54, 55, 56, 57, 97, 98, 99, 100, 101, 102, 103, 104, 105, 106, 107, 108, 109, 110, 111, 112, 113, 114, 115, 116, 117, 118, 119, 120, 121, 122] }) (.int .u64 10)).run Tryd.prog w = .ok (.int .u8 97) w := by kernel_rfl
theorem index36_11 (w : World) : (Instr.index 9 (.string { data := #[48, 49, 50, 51, 52, 53, 54, 55, 56, 57, 97, 98, 99, 100, 101, 102, 103, 104, 105, 106, 107, 108, 109, 110, 111, 112, 113, 114, 115, 116, 117, 118, 119, 120, 121, 122] }) (.int .u64 11)).run Tryd.prog w = .ok (.int .u8 98) w := by kernel_rfl
theorem index36_12 (w : World) : (Instr.index 9 (.string { data := #[48, 49, 50, 51, 52, 53, 54, 55, 56, 57, 97, 98, 99, 100, 101, 102, 103, 104, 105, 106, 107, 108, 109, 110, 111, 112, 113, 114, 115, 116, 117, 118, 119, 120, 121, 122] }) (.int .u64 12)).run Tryd.prog w = .ok (.int .u8 99) w := by kernel_rfl
theorem index36_13 (w : World) : (Instr.index 9 (.string { data := #[48, 49, 50, 51, 52, 53, 54, 55, 56, 57, 97, 98, 99, 100, 101, 102, 103, 104, 105, 106, 107, 108, 109, 110, 111, 112, 113, 114, 115, 116, 117, 118, 119, 120, 121, 122] }) (.int .u64 13)).run Tryd.prog w = .ok (.int .u8 100) w := by kernel_rfl
theorem index36_14 (w : World) : (Instr.index 9 (.string { data := #[48, 49, 50, 51, 52, 53, 54, 55, 56, 57, 97, 98, 99, 100, 101, 102, 103, 104, 105, 106, 107, 108, 109, 110, 111, 112, 113, 114, 115, 116, 117, 118, 119, 120, 121, 122] }) (.int .u64 14)).run Tryd.prog w = .ok (.int .u8 101) w := by kernel_rfl
theorem index36_15 (w : World) : (Instr.index 9 (.string { data := #[48, 49, 50, 51, 52, 53, 54, 55, 56, 57, 97, 98, 99, 100, 101, 102, 103, 104, 105, 106, 107, 108, 109, 110, 111, 112, 113, 114, 115, 116, 117, 118, 119, 120, 121, 122] }) (.int .u64 15)).run Tryd.prog w = .ok (.int .u8 102) w := by kernel_rfl

theorem index36 (d : Nat) (h : d < 16) (w : World) :
    (Instr.index 9 (.string { data := #[48, 49, 50, 51, 52, 53, 54, 55, 56, 57, 97, 98, 99, 100, 101, 102, 103, 104, 105, 106, 107, 108, 109, 110, 111, 112, 113, 114, 115, 116, 117, 118, 119, 120, 121, 122] }) (.int .u64 d)).run Tryd.prog w = .ok (.int .u8 (hexDigit d)) w := by
  have hc : d = 0 ∨ d = 1 ∨ d = 2 ∨ d = 3 ∨ d = 4 ∨ d = 5 ∨ d = 6 ∨ d = 7 ∨ d = 8 ∨ d = 9 ∨ d = 10 ∨ d = 11 ∨ d = 12 ∨ d = 13 ∨ d = 14 ∨ d = 15 := by omega
  clear h
  rcases hc with rfl | rfl | rfl | rfl | rfl | rfl | rfl | rfl | rfl | rfl | rfl | rfl | rfl | rfl | rfl | rfl
  · exact index36_0 w
  · exact index36_1 w
  · exact index36_2 w
  · exact index36_3 w
  · exact index36_4 w
  · exact index36_5 w
  · exact index36_6 w
  · exact index36_7 w
  · exact index36_8 w
  · exact index36_9 w
  · exact index36_10 w
  · exact index36_11 w
  · exact index36_12 w
  · exact index36_13 w
  · exact index36_14 w
  · exact index36_15 w

theorem and_low (u : Nat) (h : u < 18446744073709551616) : bits BinOp.and IntKind.u64 (u : Int) 15 = ((u % 16 : Nat) : Int) := by
  have := u64_and_nat u 15 h (by decide)
  rw [show (15 : Int) = ((15 : Nat) : Int) from rfl, this, nat_mask4]

/-- What holds at the head of every round: j digits have been laid, from the array's end. -/
def FBRel (x : Nat) (w : World) (v i : Value) (wr : World) : Prop :=
  ∃ (j u : Nat) (m : Int), j ≤ 15 ∧ m + j = 65 ∧ u = x / 16 ^ j ∧ v = .int .u64 u ∧ i = .int .i64 m ∧ (∀ k, k < 65 → ∃ y, wr.cell? ⟨w.heap.size, k, none⟩ = some y) ∧
    (∀ t, t < j → wr.cell? ⟨w.heap.size, 64 - t, none⟩ = some (.int .u8 (hexDigit (dig x (4 * t))))) ∧ (∀ k, wr.frozen? ⟨w.heap.size, k, none⟩ = false) ∧ Below w.heap.size w wr

theorem dig_16 (x j : Nat) : dig x (4 * j) = x / 16 ^ j % 16 := by
  unfold dig
  rw [Nat.pow_mul]

theorem j_lt {x j u : Nat} (hx : x < 18446744073709551616) (hj : j ≤ 15) (hu : u = x / 16 ^ j) (h : 16 ≤ u) : j + 1 ≤ 15 := by
  rcases Nat.lt_or_ge j 15 with h' | h'
  · omega
  · obtain rfl : j = 15 := by omega
    rw [show (16 : Nat) ^ 15 = 1152921504606846976 from rfl] at hu
    omega

theorem fb_step {x j u p : Nat} {w wr : World} (hx : x < 18446744073709551616) (hj : j ≤ 15) (hp : (p : Int) + 1 + j = 65) (hu : u = x / 16 ^ j) (hge : 16 ≤ u)
    (hcs : ∀ k, k < 65 → ∃ y, wr.cell? ⟨w.heap.size, k, none⟩ = some y) (hds : ∀ t, t < j → wr.cell? ⟨w.heap.size, 64 - t, none⟩ = some (.int .u8 (hexDigit (dig x (4 * t)))))
    (hfr : ∀ k, wr.frozen? ⟨w.heap.size, k, none⟩ = false) (hb : Below w.heap.size w wr) {D : Nat} (hD : u % 16 = D) :
    FBRel x w (.int .u64 ((u : Int) / 16)) (.int .i64 p) (wr.setCell ⟨w.heap.size, p, none⟩ (.int .u8 (hexDigit D))) := by
  have hpj : p = 64 - j := by omega
  refine ⟨j + 1, u / 16, p, j_lt hx hj hu hge, by omega, ?_, by rw [Int.natCast_ediv]; rfl, rfl, ?_, ?_, ?_, hb.setCell (Nat.le_refl _) _⟩
  · rw [hu, Nat.div_div_eq_div_mul, Nat.pow_succ]
  · intro k hk
    by_cases h : k = p
    · subst h
      obtain ⟨y, hy⟩ := hcs k hk
      exact ⟨_, World.cell?_setCell_same _ _ _ hy⟩
    · obtain ⟨y, hy⟩ := hcs k hk
      refine ⟨y, ?_⟩
      rw [World.cell?_setCell_other _ _ _ _ (by intro e; injection e with _ e2; exact h e2.symm)]
      exact hy
  · intro t ht
    by_cases h : t = j
    · subst h
      rw [← hpj, dig_16, ← hu, hD]
      obtain ⟨y, hy⟩ := hcs p (by omega)
      exact World.cell?_setCell_same _ _ _ hy
    · rw [World.cell?_setCell_other _ _ _ _ (by intro e; injection e with _ e2; omega)]
      exact hds t (by omega)
  · intro k
    rw [World.frozen?_setCell]
    exact hfr k

theorem len58 : Tryd.prog.arrayLen 107 = 65 := by kernel_rfl
theorem elem58 : Tryd.prog.elem 107 = 5 := by kernel_rfl
theorem under58 : Tryd.prog.underlying 107 = some (.array (Tryd.prog.arrayLen 107) (Tryd.prog.elem 107)) := by kernel_rfl
theorem size58 (w : World) : (sizeOf (Tryd.prog.elem 107)).run Tryd.prog w = .ok 1 w := by kernel_rfl

theorem slice65 (B p : Nat) (hp : p ≤ 64) (w : World) :
    (Instr.sliceAt 107 (.pointer (some ⟨B, 0, none⟩)) (some (.int .i64 p)) none none).run Tryd.prog w = .ok (.slice (some ⟨B, p, none⟩) (65 - p) (65 - p)) w := by
  rw [run_sliceAt_array_l w 107 ⟨B, 0, none⟩ under58 .i64 p (by omega) (by rw [len58]; omega), size58]
  simp only [Result.andThen, slicedAt, len58, Int.toNat_natCast]
  rw [if_neg (by omega)]
  simp [Addr.add]
  intro h
  exact h.symm

/-- The last n digits of x, as a string. -/
def lastB (x n : Nat) : ByteArray := strOfNums (((hexN x 16).drop (16 - n)).map fun (d : Nat) => (d : Int))

theorem last_get (x n i : Nat) (hn : n ≤ 16) (hi : i < n) : ((hexN x 16).drop (16 - n))[i]? = some (hexDigit (dig x (4 * (n - 1 - i)))) := by
  rw [List.getElem?_drop]
  simp only [hexN, List.getElem?_map]
  rw [List.getElem?_range (by omega)]
  simp only [Option.map_some]
  congr 3
  omega

theorem convert_last {w : World} {B p j x : Nat} (hj : j ≤ 15) (hp : p + j = 64)
    (h : ∀ t, t < j + 1 → w.cell? ⟨B, 64 - t, none⟩ = some (.int .u8 (hexDigit (dig x (4 * t))))) :
    (convert 49 9 (.slice (some ⟨B, p, none⟩) (65 - p) (65 - p))).run Tryd.prog w = .ok (.string (lastB x (j + 1))) w := by
  refine run_convert_bytes_arg w 49 5 Tryd.underlying49 Tryd.underlying5 B p (65 - p) (65 - p) _ ?_ ?_ 9 Tryd.underlying9
  · rw [List.length_map, List.length_drop, hexN_length]
    omega
  · intro i hi
    have h1 := h (j - i) (by omega)
    rw [show 64 - (j - i) = p + i by omega] at h1
    rw [h1]
    simp only [List.getD, List.getElem?_map]
    rw [last_get x (j + 1) i (by omega) (by omega)]
    simp only [Option.map_some, Option.getD_some]
    rw [show j + 1 - 1 - i = j - i by omega]

/-- What FormatUint leaves at base 16. -/
def HexPost (x : Nat) (w : World) (s : ByteArray) (w' : World) : Prop := ∃ n, 1 ≤ n ∧ n ≤ 16 ∧ x < 16 ^ n ∧ s = lastB x n ∧ Below w.heap.size w w'
def FBPost (x : Nat) (w : World) (e : Ending) (w' : World) : Prop := ∃ s, e = .returned (.tuple #[.slice none 0 0, .string s]) ∧ HexPost x w s w'

theorem fb_end {x j u : Nat} (hu : u = x / 16 ^ j) (h : ¬ 16 ≤ u) : x < 16 ^ (j + 1) := by
  rw [Nat.pow_succ]
  have := (Nat.div_lt_iff_lt_mul (Nat.pow_pos (n := j) (by decide : 0 < 16))).1 (show x / 16 ^ j < 16 by omega)
  rw [Nat.mul_comm]
  exact this

theorem fb_cells {x j u p : Nat} {w wr : World} (hp : p + j = 64) (hu : u = x / 16 ^ j) (h : ¬ 16 ≤ u)
    (hcs : ∀ k, k < 65 → ∃ y, wr.cell? ⟨w.heap.size, k, none⟩ = some y) (hds : ∀ t, t < j → wr.cell? ⟨w.heap.size, 64 - t, none⟩ = some (.int .u8 (hexDigit (dig x (4 * t))))) :
    ∀ t, t < j + 1 → (wr.setCell ⟨w.heap.size, p, none⟩ (.int .u8 (hexDigit u))).cell? ⟨w.heap.size, 64 - t, none⟩ = some (.int .u8 (hexDigit (dig x (4 * t)))) := by
  intro t ht
  by_cases h' : t = j
  · subst h'
    rw [dig_16, ← hu, Nat.mod_eq_of_lt (by omega), show 64 - t = p by omega]
    obtain ⟨y, hy⟩ := hcs p (by omega)
    exact World.cell?_setCell_same _ _ _ hy
  · rw [World.cell?_setCell_other _ _ _ _ (by intro e; injection e with _ e2; omega)]
    exact hds t (by omega)

theorem fb_start (x : Nat) (w : World) : FBRel x w (.int .u64 x) (.int .i64 65) (w.alloc (.cells zs65 107)) := by
  refine ⟨0, x, 65, by omega, by omega, by simp, rfl, rfl, ?_, ?_, ?_, (Below.refl _ _).alloc (Nat.le_refl _) _⟩
  · intro k hk
    rw [World.cell?_alloc_at _ _ _ _ rfl]
    exact ⟨.int .u8 0, by simp [zs65, hk]⟩
  · intro t ht
    omega
  · intro k
    exact World.frozen?_alloc_at _ _ _ _ rfl

set_option maxRecDepth 100000 in
set_option maxHeartbeats 1000000 in
theorem formatBits_16 (x : Nat) (w : World) (hx : x < 18446744073709551616) (hT : w.cell? ⟨3, 15, none⟩ = some (.int .u8 4)) (h3 : 3 < w.heap.size) :
    Calls Tryd.prog 63 #[.slice none 0 0, .int .u64 x, .int .i64 16, .bool false, .bool false] w (FBPost x w) := by
  have hz := zero65
  have HX := Lib.hid hx
  clear hx
  go_enter Tryd.func63, Tryd.ntmps63
  go_wp2_with fail
  (with_reducible refine (pow2_16 _).mono ?_)
  rintro e w' ⟨rfl, rfl⟩
  go_wp2_with fail
  (with_reducible refine (tz16 _ ?t).mono ?_)
  case t => rw [World.cell?_alloc_past _ _ _ h3]; exact hT
  rintro e w' ⟨rfl, rfl⟩
  go_wp2_with fail
  go_loopw [1, 13] (fun v i wr => FBRel x w v i wr) (fun v _ _ => (intOf v).toNat)
  case atStart => exact fb_start x w
  case round =>
    obtain ⟨j, u, m, hj, hm, hu, rfl, rfl, hcs, hds, hfr, hb⟩ := hrel
    obtain ⟨p, rfl⟩ : ∃ p : Nat, m = (p : Int) + 1 := ⟨(m - 1).toNat, by omega⟩
    have hux : u ≤ x := by rw [hu]; exact Nat.div_le_self _ _
    have hp64 : p ≤ 64 := by omega
    obtain ⟨y, hy⟩ := hcs p (by omega)
    have hf := hfr p
    by_cases hge : 16 ≤ u
    · have ha := and_low u (by have := HX.out; omega)
      have hidx := index36 (u % 16) (Nat.mod_lt _ (by decide))
      generalize hD : u % 16 = D at ha hidx
      have HDD := Lib.hid hD
      clear hD
      have HU := Lib.hid hu
      have HC := Lib.hid hcs
      have HD := Lib.hid hds
      have HF := Lib.hid hfr
      have HM := Lib.hid hm
      clear hu hcs hds hfr hm
      go_wp2
      go_roundw
      case rel => exact fb_step HX.out hj HM.out HU.out hge HC.out HD.out HF.out hb HDD.out
      case measure => simp [intOf]; omega
    · have hidx := index36 u (by omega)
      have HU := Lib.hid hu
      have HC := Lib.hid hcs
      have HD := Lib.hid hds
      have HF := Lib.hid hfr
      have hp64' : p + j = 64 := by omega
      have hsl := slice65 w.heap.size p hp64
      have hcv := convert_last hj hp64' (fb_cells hp64' hu hge hcs hds)
      have HP := Lib.hid hp64'
      clear hu hcs hds hfr hm hp64'
      go_wp2
      go_ret2
      exact ⟨_, rfl, j + 1, by omega, by omega, fb_end HU.out hge, rfl, hb.setCell (Nat.le_refl _) _⟩

def SPost (x : Nat) (w : World) (e : Ending) (w' : World) : Prop := ∃ s, e = .returned (.string s) ∧ HexPost x w s w'

theorem formatUint_16 (x : Nat) (w : World) (hx : x < 18446744073709551616) (hT : w.cell? ⟨3, 15, none⟩ = some (.int .u8 4)) (h3 : 3 < w.heap.size) :
    Calls Tryd.prog 64 #[.int .u64 x, .int .i64 16] w (SPost x w) := by
  have hc := formatBits_16 x w hx hT h3
  clear hx hT h3
  go_enter Tryd.func64, Tryd.ntmps64
  go_wp2_with fail
  (with_reducible refine hc.mono ?_)
  rintro e w' ⟨s, rfl, hp⟩
  clear hc
  go_wp2
  go_ret
  exact ⟨s, rfl, hp⟩

theorem format_16 (x : Nat) (w : World) (hx : x < 18446744073709551616) (hT : w.cell? ⟨3, 15, none⟩ = some (.int .u8 4)) (h3 : 3 < w.heap.size) :
    Calls Tryd.prog 53 #[.int .u64 x, .int .i64 16] w (SPost x w) := by
  have hc := formatUint_16 x w hx hT h3
  clear hx hT h3
  go_enter Tryd.func53, Tryd.ntmps53
  go_wp2_with fail
  (with_reducible refine hc.mono ?_)
  rintro e w' ⟨s, rfl, hp⟩
  clear hc
  go_wp2
  go_ret
  exact ⟨s, rfl, hp⟩

theorem lastB_size (x n : Nat) (h : n ≤ 16) : (lastB x n).size = n := by
  unfold lastB
  rw [strOfNums_size, List.length_map, List.length_drop, hexN_length]
  omega

theorem pad_step (x m : Nat) (hm : m < 16) (h : x < 16 ^ m) : ({ data := #[48] } : ByteArray) ++ lastB x m = lastB x (m + 1) := by
  have e : (hexN x 16).drop (16 - (m + 1)) = 48 :: (hexN x 16).drop (16 - m) := by
    rw [List.drop_eq_getElem_cons (by rw [hexN_length]; omega), show 16 - (m + 1) + 1 = 16 - m by omega]
    congr 1
    simp only [hexN, List.getElem_map, List.getElem_range]
    rw [show 60 - 4 * (16 - (m + 1)) = 4 * m by omega, dig_16, Nat.div_eq_of_lt h]
    rfl
  unfold lastB
  rw [e]
  apply ByteArray.ext
  simp [strOfNums]

def HRel (x : Nat) (v : Value) : Prop := ∃ m, 1 ≤ m ∧ m ≤ 16 ∧ x < 16 ^ m ∧ v = .string (lastB x m)
def HPost (x : Nat) (w : World) (e : Ending) (w' : World) : Prop := e = .returned (.string (lastB x 16)) ∧ Below w.heap.size w w'

theorem hex_any (x : Nat) (w : World) (hx : x < 18446744073709551616) (hT : w.cell? ⟨3, 15, none⟩ = some (.int .u8 4)) (h3 : 3 < w.heap.size) :
    Calls Tryd.prog 56 #[.int .u64 x] w (HPost x w) := by
  have hc := format_16 x w hx hT h3
  clear hx hT h3
  go_enter Tryd.func56, Tryd.ntmps56
  go_wp2_with fail
  (with_reducible refine hc.mono ?_)
  rintro e w' ⟨s, rfl, n, hn1, hn16, hxn, rfl, hb⟩
  clear hc
  go_wp2_with fail
  go_loop [3] (fun v => HRel x v) (fun v => 16 - (match v with | .string s => s.size | _ => 0))
  case atStart => exact ⟨n, hn1, hn16, hxn, rfl⟩
  case round =>
    obtain ⟨m, hm1, hm16, hxm, rfl⟩ := hrel
    have hz := lastB_size x m hm16
    have HX := Lib.hid hxm
    clear hxn hxm
    by_cases h : m = 16
    · subst h
      go_wp2
      go_ret
      exact ⟨rfl, hb⟩
    · go_wp2
      have hs := pad_step x m (by omega) HX.out
      rw [hs]
      go_round
      case rel => exact ⟨m + 1, by omega, by omega, Nat.lt_of_lt_of_le HX.out (Nat.pow_le_pow_right (by decide) (by omega)), rfl⟩
      case measure =>
        show 16 - (lastB x (m + 1)).size < 16 - (lastB x m).size
        rw [lastB_size x (m + 1) (by omega), hz]
        omega

theorem text_join (a b : Nat) : lastB a 16 ++ ({ data := #[44] } : ByteArray) ++ lastB b 16 = textB a b := by
  unfold lastB textB textL
  apply ByteArray.ext
  simp [strOfNums]

def RTPost (a b : Nat) (w : World) (e : Ending) (w' : World) : Prop := e = .returned (.string (textB a b)) ∧ Below w.heap.size w w'

theorem rtext_any (a b : Nat) (w : World) (ha : a < 18446744073709551616) (hb : b < 18446744073709551616) (hT : w.cell? ⟨3, 15, none⟩ = some (.int .u8 4)) (h3 : 3 < w.heap.size) :
    Calls Tryd.prog 47 #[.complex .f64 a b] w (RTPost a b w) := by
  have hc1 := hex_any a w ha hT h3
  have hz1 := lastB_size a 16 (by decide)
  have hz2 := lastB_size b 16 (by decide)
  have HB := Lib.hid hb
  have HT := Lib.hid hT
  clear ha hb hT
  go_enter Tryd.func47, Tryd.ntmps47
  go_wp2_with fail
  (with_reducible refine (rwords_any _ _ _).mono ?_)
  rintro e w0 ⟨rfl, rfl⟩
  go_wp2_with fail
  (with_reducible refine hc1.mono ?_)
  rintro e w1 ⟨rfl, hb1⟩
  clear hc1
  have hs1 := hb1.size
  have hc2 := hex_any b w1 HB.out ((hb1.cell (p := ⟨3, 15, none⟩) h3).trans HT.out) (by omega)
  go_wp2_with fail
  (with_reducible refine hc2.mono ?_)
  rintro e w2 ⟨rfl, hb2⟩
  clear hc2
  go_wp2
  go_ret
  exact ⟨congrArg Ending.returned (congrArg Value.string (text_join a b)), hb1.trans (hb2.mono hs1)⟩

end Go.Proofs.YtigclopkoolocaaDoor
