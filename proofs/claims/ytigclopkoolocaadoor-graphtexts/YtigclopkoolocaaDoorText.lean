/-
  What cplx.Text and cplx.Parse return, for every number and every text. No conditions but that a word is one of 64 bits.
-/
import Derived.Test.YtigclopkoolocaaDoorBase
import Derived.Lib.Hide
namespace Go.Proofs.YtigclopkoolocaaDoor
open Go.RowKit Go.Flo

/-- A digit, base 16. -/
def hexDigit (d : Nat) : Nat := if d < 10 then 48 + d else 87 + d

/-- The digit of x from the bit k on. -/
def dig (x k : Nat) : Nat := x / 2 ^ k % 16

/-- The first j digits of x, as bytes. -/
def hexN (x j : Nat) : List Nat := (List.range j).map fun i => hexDigit (dig x (60 - 4 * i))

theorem hexN_succ (x j : Nat) : hexN x (j + 1) = hexN x j ++ [hexDigit (dig x (60 - 4 * j))] := by
  simp [hexN, List.range_succ]

theorem hexN_length (x j : Nat) : (hexN x j).length = j := by simp [hexN]

/-- As cells. -/
def cellsOf (l : List Nat) : List Value := l.map fun (d : Nat) => Value.int .u8 (d : Int)

theorem index_0 (w : World) : (Instr.index 9 (.string { data := #[48, 49, 50, 51, 52, 53, 54, 55, 56, 57, 97, 98, 99, 100, 101, 102] }) (.int .u64 0)).run Tryd.prog w = .ok (.int .u8 48) w := by kernel_rfl
theorem index_1 (w : World) : (Instr.index 9 (.string { data := #[48, 49, 50, 51, 52, 53, 54, 55, 56, 57, 97, 98, 99, 100, 101, 102] }) (.int .u64 1)).run Tryd.prog w = .ok (.int .u8 49) w := by kernel_rfl
theorem index_2 (w : World) : (Instr.index 9 (.string { data := #[48, 49, 50, 51, 52, 53, 54, 55, 56, 57, 97, 98, 99, 100, 101, 102] }) (.int .u64 2)).run Tryd.prog w = .ok (.int .u8 50) w := by kernel_rfl
theorem index_3 (w : World) : (Instr.index 9 (.string { data := #[48, 49, 50, 51, 52, 53, 54, 55, 56, 57, 97, 98, 99, 100, 101, 102] }) (.int .u64 3)).run Tryd.prog w = .ok (.int .u8 51) w := by kernel_rfl
theorem index_4 (w : World) : (Instr.index 9 (.string { data := #[48, 49, 50, 51, 52, 53, 54, 55, 56, 57, 97, 98, 99, 100, 101, 102] }) (.int .u64 4)).run Tryd.prog w = .ok (.int .u8 52) w := by kernel_rfl
theorem index_5 (w : World) : (Instr.index 9 (.string { data := #[48, 49, 50, 51, 52, 53, 54, 55, 56, 57, 97, 98, 99, 100, 101, 102] }) (.int .u64 5)).run Tryd.prog w = .ok (.int .u8 53) w := by kernel_rfl
theorem index_6 (w : World) : (Instr.index 9 (.string { data := #[48, 49, 50, 51, 52, 53, 54, 55, 56, 57, 97, 98, 99, 100, 101, 102] }) (.int .u64 6)).run Tryd.prog w = .ok (.int .u8 54) w := by kernel_rfl
theorem index_7 (w : World) : (Instr.index 9 (.string { data := #[48, 49, 50, 51, 52, 53, 54, 55, 56, 57, 97, 98, 99, 100, 101, 102] }) (.int .u64 7)).run Tryd.prog w = .ok (.int .u8 55) w := by kernel_rfl
theorem index_8 (w : World) : (Instr.index 9 (.string { data := #[48, 49, 50, 51, 52, 53, 54, 55, 56, 57, 97, 98, 99, 100, 101, 102] }) (.int .u64 8)).run Tryd.prog w = .ok (.int .u8 56) w := by kernel_rfl
theorem index_9 (w : World) : (Instr.index 9 (.string { data := #[48, 49, 50, 51, 52, 53, 54, 55, 56, 57, 97, 98, 99, 100, 101, 102] }) (.int .u64 9)).run Tryd.prog w = .ok (.int .u8 57) w := by kernel_rfl
theorem index_10 (w : World) : (Instr.index 9 (.string { data := #[48, 49, 50, 51, 52, 53, 54, 55, 56, 57, 97, 98, 99, 100, 101, 102] }) (.int .u64 10)).run Tryd.prog w = .ok (.int .u8 97) w := by kernel_rfl
theorem index_11 (w : World) : (Instr.index 9 (.string { data := #[48, 49, 50, 51, 52, 53, 54, 55, 56, 57, 97, 98, 99, 100, 101, 102] }) (.int .u64 11)).run Tryd.prog w = .ok (.int .u8 98) w := by kernel_rfl
theorem index_12 (w : World) : (Instr.index 9 (.string { data := #[48, 49, 50, 51, 52, 53, 54, 55, 56, 57, 97, 98, 99, 100, 101, 102] }) (.int .u64 12)).run Tryd.prog w = .ok (.int .u8 99) w := by kernel_rfl
theorem index_13 (w : World) : (Instr.index 9 (.string { data := #[48, 49, 50, 51, 52, 53, 54, 55, 56, 57, 97, 98, 99, 100, 101, 102] }) (.int .u64 13)).run Tryd.prog w = .ok (.int .u8 100) w := by kernel_rfl
theorem index_14 (w : World) : (Instr.index 9 (.string { data := #[48, 49, 50, 51, 52, 53, 54, 55, 56, 57, 97, 98, 99, 100, 101, 102] }) (.int .u64 14)).run Tryd.prog w = .ok (.int .u8 101) w := by kernel_rfl
theorem index_15 (w : World) : (Instr.index 9 (.string { data := #[48, 49, 50, 51, 52, 53, 54, 55, 56, 57, 97, 98, 99, 100, 101, 102] }) (.int .u64 15)).run Tryd.prog w = .ok (.int .u8 102) w := by kernel_rfl

theorem index_digit (d : Nat) (h : d < 16) (w : World) :
    (Instr.index 9 (.string { data := #[48, 49, 50, 51, 52, 53, 54, 55, 56, 57, 97, 98, 99, 100, 101, 102] }) (.int .u64 d)).run Tryd.prog w = .ok (.int .u8 (hexDigit d)) w := by
  have hc : d = 0 ∨ d = 1 ∨ d = 2 ∨ d = 3 ∨ d = 4 ∨ d = 5 ∨ d = 6 ∨ d = 7 ∨ d = 8 ∨ d = 9 ∨ d = 10 ∨ d = 11 ∨ d = 12 ∨ d = 13 ∨ d = 14 ∨ d = 15 := by omega
  clear h
  rcases hc with rfl | rfl | rfl | rfl | rfl | rfl | rfl | rfl | rfl | rfl | rfl | rfl | rfl | rfl | rfl | rfl
  · exact index_0 w
  · exact index_1 w
  · exact index_2 w
  · exact index_3 w
  · exact index_4 w
  · exact index_5 w
  · exact index_6 w
  · exact index_7 w
  · exact index_8 w
  · exact index_9 w
  · exact index_10 w
  · exact index_11 w
  · exact index_12 w
  · exact index_13 w
  · exact index_14 w
  · exact index_15 w

theorem and_dig (x k : Nat) (hx : x < 18446744073709551616) : bits BinOp.and IntKind.u64 ((x : Int) / 2 ^ k) 15 = ((dig x k : Nat) : Int) := by
  have e : ((x : Int) / 2 ^ k) = ((x / 2 ^ k : Nat) : Int) := by simp
  have hl : x / 2 ^ k ≤ x := Nat.div_le_self _ _
  have := u64_and_nat (x / 2 ^ k) 15 (by omega) (by decide)
  rw [e, show (15 : Int) = ((15 : Nat) : Int) from rfl, this, nat_mask4]
  rfl

theorem dig_lt (x k : Nat) : dig x k < 16 := Nat.mod_lt _ (by decide)

theorem info5 : (Tryd.prog.info? 5).map (fun i => (i.zero, i.size, i.bytes)) = some (some (.int .u8 0), 1, 1) := by kernel_rfl

def AWRel (x g k cap base : Nat) (xs : List Value) (w : World) (v i : Value) (wr : World) : Prop :=
  ∃ (j : Nat) (m : Int), j ≤ 16 ∧ m + 4 * j = 60 ∧ i = .int .i64 m ∧ v = .slice (some ⟨g, 0, none⟩) (k + j) cap ∧
    wr.ownsRow base 5 1 (.slice (some ⟨g, 0, none⟩) (k + j) cap) (k + j) (xs ++ cellsOf (hexN x j)) ∧ Below base w wr

def AWPost (x g k cap base : Nat) (xs : List Value) (w : World) (e : Ending) (wr : World) : Prop :=
  e = .returned (.slice (some ⟨g, 0, none⟩) (k + 16) cap) ∧ wr.ownsRow base 5 1 (.slice (some ⟨g, 0, none⟩) (k + 16) cap) (k + 16) (xs ++ cellsOf (hexN x 16)) ∧ Below base w wr

/-- The bytes of a number's text. -/
def textL (a b : Nat) : List Nat := hexN a 16 ++ [44] ++ hexN b 16
def textB (a b : Nat) : ByteArray := strOfNums ((textL a b).map fun (d : Nat) => (d : Int))

theorem textL_length (a b : Nat) : (textL a b).length = 33 := by simp [textL, hexN_length]

theorem convert_text {w : World} {base g : Nat} {a b : Nat} (h : w.ownsRow base 5 1 (.slice (some ⟨g, 0, none⟩) 33 33) 33 (cellsOf (textL a b))) :
    (convert 49 9 (.slice (some ⟨g, 0, none⟩) 33 33)).run Tryd.prog w = .ok (.string (textB a b)) w := by
  refine run_convert_bytes_arg w 49 5 Tryd.underlying49 Tryd.underlying5 g 0 33 33 ((textL a b).map fun (d : Nat) => (d : Int)) (by simp [textL_length]) ?_ 9 Tryd.underlying9
  intro i hi
  have hl := textL_length a b
  have hc := h.cells (g := g) rfl i (.int .u8 ((textL a b).getD i 0 : Nat)) (by
    simp only [cellsOf, List.getElem?_map, List.getD]
    rw [List.getElem?_eq_getElem (by omega)]
    rfl)
  have hplain : (⟨g, 0, none⟩ : Addr).add i = ⟨g, 0 + i, none⟩ := by unfold Addr.add; split <;> simp_all
  rw [hplain] at hc
  rw [hc]
  simp only [List.getD, List.getElem?_map]
  rw [List.getElem?_eq_getElem (by omega)]
  rfl

def TextPost (a b : Nat) (w : World) (e : Ending) (w' : World) : Prop := e = .returned (.string (textB a b)) ∧ Below w.heap.size w w'

end Go.Proofs.YtigclopkoolocaaDoor
