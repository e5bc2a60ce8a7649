/-
  What cplx.Text and cplx.Parse return, for every number and every text. No conditions but that a word is one of 64 bits.
-/
import Derived.Test.YtjnaglellobmmaaDoorBase
import Derived.Lib.Hide
namespace Go.Proofs.YtjnaglellobmmaaDoor
open Go.RowKit Go.Flo

/-- A digit, base 16. -/
def hexDigit (d : Nat) : Nat := if d < 10 then 48 + d else 87 + d

/-- The digit of x from the bit k on. -/
def dig (x k : Nat) : Nat := x / 2 ^ k % 16

/-- The first j digits of x, as bytes. -/
def hexN (x j : Nat) : List Nat := (List.range j).map fun i => hexDigit (dig x (60 - 4 * i))

theorem hexN_succ (x j : Nat) : hexN x (j + 1) = hexN x j ++ [hexDigit (dig x (60 - 4 * j))] := by
  simp [hexN, List.range_succ]

theorem hexN_length (x j : Nat) : (hexN x j).length = j := by simp [hexN]

/-- As cells. -/
def cellsOf (l : List Nat) : List Value := l.map fun (d : Nat) => Value.int .u8 (d : Int)

theorem index_0 (w : World) : (Instr.index 9 (.string { data := #[48, 49, 50, 51, 52, 53, 54, 55, 56, 57, 97, 98, 99, 100, 101, 102] }) (.int .u64 0)).run Tryd.prog w = .ok (.int .u8 48) w := by kernel_rfl
theorem index_1 (w : World) : (Instr.index 9 (.string { data := #[48, 49, 50, 51, 52, 53, 54, 55, 56, 57, 97, 98, 99, 100, 101, 102] }) (.int .u64 1)).run Tryd.prog w = .ok (.int .u8 49) w := by kernel_rfl
theorem index_2 (w : World) : (Instr.index 9 (.string { data := #[48, 49, 50, 51, 52, 53, 54, 55, 56, 57, 97, 98, 99, 100, 101, 102] }) (.int .u64 2)).run Tryd.prog w = .ok (.int .u8 50) w := by kernel_rfl
theorem index_3 (w : World) : (Instr.index 9 (.string { data := #[48, 49, 50, 51, 52, 53, 54, 55, 56, 57, 97, 98, 99, 100, 101, 102] }) (.int .u64 3)).run Tryd.prog w = .ok (.int .u8 51) w := by kernel_rfl
theorem index_4 (w : World) : (Instr.index 9 (.string { data := #[48, 49, 50, 51, 52, 53, 54, 55, 56, 57, 97, 98, 99, 100, 101, 102] }) (.int .u64 4)).run Tryd.prog w = .ok (.int .u8 52) w := by kernel_rfl
theorem index_5 (w : World) : (Instr.index 9 (.string { data := #[48, 49, 50, 51, 52, 53, 54, 55, 56, 57, 97, 98, 99, 100, 101, 102] }) (.int .u64 5)).run Tryd.prog w = .ok (.int .u8 53) w := by kernel_rfl
theorem index_6 (w : World) : (Instr.index 9 (.string { data := #[48, 49, 50, 51, 52, 53, 54, 55, 56, 57, 97, 98, 99, 100, 101, 102] }) (.int .u64 6)).run Tryd.prog w = .ok (.int .u8 54) w := by kernel_rfl
theorem index_7 (w : World) : (Instr.index 9 (.string { data := #[48, 49, 50, 51, 52, 53, 54, 55, 56, 57, 97, 98, 99, 100, 101, 102] }) (.int .u64 7)).run Tryd.prog w = .ok (.int .u8 55) w := by kernel_rfl
theorem index_8 (w : World) : (Instr.index 9 (.string { data := #[48, 49, 50, 51, 52, 53, 54, 55, 56, 57, 97, 98, 99, 100, 101, 102] }) (.int .u64 8)).run Tryd.prog w = .ok (.int .u8 56) w := by kernel_rfl
theorem index_9 (w : World) : (Instr.index 9 (.string { data := #[48, 49, 50, 51, 52, 53, 54, 55, 56, 57, 97, 98, 99, 100, 101, 102] }) (.int .u64 9)).run Tryd.prog w = .ok (.int .u8 57) w := by kernel_rfl
theorem index_10 (w : World) : (Instr.index 9 (.string { data := #[48, 49, 50, 51, 52, 53, 54, 55, 56, 57, 97, 98, 99, 100, 101, 102] }) (.int .u64 10)).run Tryd.prog w = .ok (.int .u8 97) w := by kernel_rfl
theorem index_11 (w : World) : (Instr.index 9 (.string { data := #[48, 49, 50, 51, 52, 53, 54, 55, 56, 57, 97, 98, 99, 100, 101, 102] }) (.int .u64 11)).run Tryd.prog w = .ok (.int .u8 98) w := by kernel_rfl
theorem index_12 (w : World) : (Instr.index 9 (.string { data := #[48, 49, 50, 51, 52, 53, 54, 55, 56, 57, 97, 98, 99, 100, 101, 102] }) (.int .u64 12)).run Tryd.prog w = .ok (.int .u8 99) w := by kernel_rfl
theorem index_13 (w : World) : (Instr.index 9 (.string { data := #[48, 49, 50, 51, 52, 53, 54, 55, 56, 57, 97, 98, 99, 100, 101, 102] }) (.int .u64 13)).run Tryd.prog w = .ok (.int .u8 100) w := by kernel_rfl
theorem index_14 (w : World) : (Instr.index 9 (.string { data := #[48, 49, 50, 51, 52, 53, 54, 55, 56, 57, 97, 98, 99, 100, 101, 102] }) (.int .u64 14)).run Tryd.prog w = .ok (.int .u8 101) w := by kernel_rfl
theorem index_15 (w : World) : (Instr.index 9 (.string { data := #[48, 49, 50, 51, 52, 53, 54, 55, 56, 57, 97, 98, 99, 100, 101, 102] }) (.int .u64 15)).run Tryd.prog w = .ok (.int .u8 102) w := by kernel_rfl

theorem index_digit (d : Nat) (h : d < 16) (w : World) :
    (Instr.index 9 (.string { data := #[48, 49, 50, 51, 52, 53, 54, 55, 56, 57, 97, 98, 99, 100, 101, 102] }) (.int .u64 d)).run Tryd.prog w = .ok (.int .u8 (hexDigit d)) w := by
  have hc : d = 0 ∨ d = 1 ∨ d = 2 ∨ d = 3 ∨ d = 4 ∨ d = 5 ∨ d = 6 ∨ d = 7 ∨ d = 8 ∨ d = 9 ∨ d = 10 ∨ d = 11 ∨ d = 12 ∨ d = 13 ∨ d = 14 ∨ d = 15 := by omega
  clear h
  rcases hc with rfl | rfl | rfl | rfl | rfl | rfl | rfl | rfl | rfl | rfl | rfl | rfl | rfl | rfl | rfl | rfl
  · exact index_0 w
  · exact index_1 w
  · exact index_2 w
  · exact index_3 w
  · exact index_4 w
  · exact index_5 w
  · exact index_6 w
  · exact index_7 w
  · exact index_8 w
  · exact index_9 w
  · exact index_10 w
  · exact index_11 w
  · exact index_12 w
  · exact index_13 w
  · exact index_14 w
  · exact index_15 w

theorem and_dig (x k : Nat) (hx : x < 18446744073709551616) : bits BinOp.and IntKind.u64 ((x : Int) / 2 ^ k) 15 = ((dig x k : Nat) : Int) := by
  have e : ((x : Int) / 2 ^ k) = ((x / 2 ^ k : Nat) : Int) := by simp
  have hl : x / 2 ^ k ≤ x := Nat.div_le_self _ _
  have := u64_and_nat (x / 2 ^ k) 15 (by omega) (by decide)
  rw [e, show (15 : Int) = ((15 : Nat) : Int) from rfl, this, nat_mask4]
  rfl

theorem dig_lt (x k : Nat) : dig x k < 16 := Nat.mod_lt _ (by decide)

theorem info5 : (Tryd.prog.info? 5).map (fun i => (i.zero, i.size, i.bytes)) = some (some (.int .u8 0), 1, 1) := by kernel_rfl

def AWRel (x g k cap base : Nat) (xs : List Value) (w : World) (v i : Value) (wr : World) : Prop :=
  ∃ (j : Nat) (m : Int), j ≤ 16 ∧ m + 4 * j = 60 ∧ i = .int .i64 m ∧ v = .slice (some ⟨g, 0, none⟩) (k + j) cap ∧
    wr.ownsRow base 5 1 (.slice (some ⟨g, 0, none⟩) (k + j) cap) (k + j) (xs ++ cellsOf (hexN x j)) ∧ Below base w wr

def AWPost (x g k cap base : Nat) (xs : List Value) (w : World) (e : Ending) (wr : World) : Prop :=
  e = .returned (.slice (some ⟨g, 0, none⟩) (k + 16) cap) ∧ wr.ownsRow base 5 1 (.slice (some ⟨g, 0, none⟩) (k + 16) cap) (k + 16) (xs ++ cellsOf (hexN x 16)) ∧ Below base w wr

set_option maxHeartbeats 1000000 in
theorem appendWord_any (x g k cap base : Nat) (xs : List Value) (w : World) (hx : x < 18446744073709551616) (hb : base ≤ w.heap.size) (hk : k + 16 ≤ cap)
    (hown : w.ownsRow base 5 1 (.slice (some ⟨g, 0, none⟩) k cap) k xs) :
    Calls Tryd.prog 53 #[.slice (some ⟨g, 0, none⟩) k cap, .int .u64 x] w (AWPost x g k cap base xs w) := by
  obtain ⟨i0, hi, hz0, hz1, hz2⟩ := info_parts info5
  go_enter Tryd.func53, Tryd.ntmps53
  go_wp2_with fail
  go_loopw [0, 5] (fun v i wr => AWRel x g k cap base xs w v i wr) (fun _ i _ => (intOf i + 4).toNat)
  case atStart => exact ⟨0, 60, by omega, by omega, rfl, rfl, by simpa [hexN, cellsOf] using hown, Below.refl _ _⟩
  case round =>
    obtain ⟨j, m, hj, hm, rfl, rfl, ho, hbl⟩ := hrel
    by_cases hz : j = 16
    · have hm4 : m = -4 := by omega
      subst hm4
      subst hz
      have HO := Lib.hid ho
      clear ho hown
      go_wp2
      go_ret
      exact ⟨rfl, HO.out, hbl⟩
    · obtain ⟨p, rfl⟩ : ∃ p : Nat, m = p := ⟨m.toNat, by omega⟩
      have hp : p = 60 - 4 * j := by omega
      have hd := and_dig x p hx
      have hl := dig_lt x p
      have hidx := index_digit (dig x p) hl
      have hp64 : p < 64 := by omega
      generalize hD : dig x p = D at hd hl hidx
      have HD := Lib.hid hD
      have HP := Lib.hid hp
      have HM := Lib.hid hm
      have hsz := hbl.size
      clear hD hp hm hown hx
      go_wp2_with (at_builtin; refine wpList_append_fits _ rfl (.tmp 10) (.tmp 16) 74 rfl base 5 i0 1 Tryd.underlying74 hi hz1 g (k + j) cap (xs ++ cellsOf (hexN x j)) rfl (ho.alloc _) ⟨wr.heap.size, 0, none⟩ 1 1 [.int .u8 (hexDigit D)] rfl rfl ?c1 ?c2 ?c3 ?_)
      case c1 => exact cell_one_new _ _ _
      case c2 => intro u hu; simp at hu; subst hu; rfl
      case c3 => omega
      intro w4 hown4 hgrow4
      have hb4 : Below base w w4 := (hbl.alloc (by omega) _).grown hgrow4 (by simp; omega) (by intro q hq; cases hq; exact (ho.lt g rfl).1)
      have HO4 := Lib.hid hown4
      have HB4 := Lib.hid hb4
      clear hown4 hgrow4 hb4 ho hbl hidx hd
      go_wp2
      go_roundw
      case rel =>
        refine ⟨j + 1, _, by omega, ?_, rfl, rfl, ?_, HB4.out⟩
        · have := HM.out
          omega
        · have h4 := HO4.out
          rw [hexN_succ, ← HP.out, HD.out]
          rw [show k + (j + 1) = k + j + 1 from rfl]
          simpa [cellsOf] using h4
      case measure => simp [intOf]; omega

/-- The bytes of a number's text. -/
def textL (a b : Nat) : List Nat := hexN a 16 ++ [44] ++ hexN b 16
def textB (a b : Nat) : ByteArray := strOfNums ((textL a b).map fun (d : Nat) => (d : Int))

theorem textL_length (a b : Nat) : (textL a b).length = 33 := by simp [textL, hexN_length]

theorem convert_text {w : World} {base g : Nat} {a b : Nat} (h : w.ownsRow base 5 1 (.slice (some ⟨g, 0, none⟩) 33 33) 33 (cellsOf (textL a b))) :
    (convert 74 9 (.slice (some ⟨g, 0, none⟩) 33 33)).run Tryd.prog w = .ok (.string (textB a b)) w := by
  refine run_convert_bytes_arg w 74 5 Tryd.underlying74 Tryd.underlying5 g 0 33 33 ((textL a b).map fun (d : Nat) => (d : Int)) (by simp [textL_length]) ?_ 9 Tryd.underlying9
  intro i hi
  have hl := textL_length a b
  have hc := h.cells (g := g) rfl i (.int .u8 ((textL a b).getD i 0 : Nat)) (by
    simp only [cellsOf, List.getElem?_map, List.getD]
    rw [List.getElem?_eq_getElem (by omega)]
    rfl)
  have hplain : (⟨g, 0, none⟩ : Addr).add i = ⟨g, 0 + i, none⟩ := by unfold Addr.add; split <;> simp_all
  rw [hplain] at hc
  rw [hc]
  simp only [List.getD, List.getElem?_map]
  rw [List.getElem?_eq_getElem (by omega)]
  rfl

def TextPost (a b : Nat) (w : World) (e : Ending) (w' : World) : Prop := e = .returned (.string (textB a b)) ∧ Below w.heap.size w w'

/-- 'appendWord_any' with the new length named. -/
theorem appendWord_at (x g k k' cap base : Nat) (xs ys : List Value) (w : World) (hx : x < 18446744073709551616) (hb : base ≤ w.heap.size) (hk' : k' = k + 16) (hk : k + 16 ≤ cap) (hys : ys = xs ++ cellsOf (hexN x 16))
    (hown : w.ownsRow base 5 1 (.slice (some ⟨g, 0, none⟩) k cap) k xs) :
    Calls Tryd.prog 53 #[.slice (some ⟨g, 0, none⟩) k cap, .int .u64 x] w fun e w' => e = .returned (.slice (some ⟨g, 0, none⟩) k' cap) ∧ w'.ownsRow base 5 1 (.slice (some ⟨g, 0, none⟩) k' cap) k' ys ∧ Below base w w' := by
  subst hk' hys
  exact appendWord_any x g k cap base xs w hx hb hk hown

set_option maxHeartbeats 1000000 in
theorem text_any (a b : Nat) (w : World) (ha : a < 18446744073709551616) (hb : b < 18446744073709551616) : Calls Tryd.prog 44 #[.complex .f64 a b] w (TextPost a b w) := by
  obtain ⟨i0, hi, hz0, hz1, hz2⟩ := info_parts info5
  have HA := Lib.hid ha
  have HB := Lib.hid hb
  clear ha hb
  go_enter Tryd.func44, Tryd.ntmps44
  go_wp2_with fail
  (with_reducible refine (words_any _ _ _).mono ?_)
  rintro e w0 ⟨rfl, rfl⟩
  go_wp2_with (refine wpList_make_own _ rfl (.const (.int .i64 0)) (.const (.int .i64 33)) 74 rfl w.heap.size 5 i0 (.int .u8 0) 1 Tryd.underlying74 hi hz0 hz1 .i64 .i64 33 33 rfl rfl rfl ?b2 ?b3 ?b4 ?_)
  case b2 => rw [hz2]; decide
  case b3 => decide
  case b4 => exact Nat.le_refl _
  intro w1 ho1 hg1
  have hb1 : Below w.heap.size w w1 := (Below.refl _ _).grown hg1 (Nat.le_refl _) (by intro k hk; cases hk)
  have HO1 := Lib.hid ho1
  have HB1 := Lib.hid hb1
  have hs1 := hb1.size
  clear ho1 hg1 hb1
  go_wp2_with fail
  (with_reducible refine (appendWord_at a w.heap.size 0 16 33 w.heap.size [] (cellsOf (hexN a 16)) w1 HA.out hs1 rfl (by decide) rfl HO1.out).mono ?_)
  rintro e w2 ⟨rfl, ho2, hb2⟩
  have hs2 := hb2.size
  have HB2 := Lib.hid (HB1.out.trans hb2)
  clear hb2 HO1 HB1
  go_wp2_with (at_builtin; refine wpList_append_fits _ rfl (.tmp 15) (.tmp 16) 74 rfl w.heap.size 5 i0 1 Tryd.underlying74 hi hz1 w.heap.size 16 33 (cellsOf (hexN a 16)) rfl (ho2.alloc _) ⟨w2.heap.size, 0, none⟩ 1 1 [.int .u8 44] rfl rfl ?c1 ?c2 ?c3 ?_)
  case c1 => exact cell_one_new _ _ _
  case c2 => intro u hu; simp at hu; subst hu; rfl
  case c3 => decide
  intro w3 ho3 hg3
  have hb3 : Below w.heap.size w w3 := (HB2.out.alloc (by omega) _).grown hg3 (by simp; omega) (by intro q hq; cases hq; exact Nat.le_refl _)
  have HO3 := Lib.hid ho3
  have HB3 := Lib.hid hb3
  have hs3 := hb3.size
  clear ho3 hg3 hb3 ho2 HB2
  go_wp2_with fail
  (with_reducible refine (appendWord_at b w.heap.size 17 33 33 w.heap.size _ (cellsOf (textL a b)) w3 HB.out hs3 rfl (by decide) ?ys HO3.out).mono ?_)
  case ys => simp [textL, cellsOf]
  rintro e w4 ⟨rfl, ho4, hb4⟩
  have HB4 := Lib.hid (HB3.out.trans hb4)
  have hcv := convert_text ho4
  clear hb4 ho4 HO3 HB3
  go_wp2
  go_ret
  exact ⟨rfl, HB4.out⟩

end Go.Proofs.YtjnaglellobmmaaDoor
