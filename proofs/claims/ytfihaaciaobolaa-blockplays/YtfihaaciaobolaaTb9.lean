/-
  Blocks that a law has got, as a row of numbers; what a turn there and back comes to; scullionref1.SameWords of two rows. No conditions but each theorem's own.
-/
import Derived.Test.YtfihaaciaobolaaTb8
import Derived.Test.YtfihaaciaobolaaMap6
namespace Go.Proofs.Ytfihaaciaobolaa
open Go.RowKit Go.Flo Go.Bit Go.Bmp
set_option maxRecDepth 100000

/-- Numbers' cells. -/
def intR (l : Nat → Int) (n : Nat) : List Value := (List.range n).map fun j => .int .i64 (l j)

theorem intR_len (l : Nat → Int) (n : Nat) : (intR l n).length = n := by simp [intR]

theorem intR_next (l : Nat → Int) (n : Nat) (x : Int) : intR l n ++ [.int .i64 x] = intR (fun j => if j = n then x else l j) (n + 1) := by
  unfold intR
  rw [List.range_succ, List.map_append]
  congr 1
  · refine List.map_congr_left fun j hj => ?_
    simp only [List.mem_range] at hj
    show Value.int .i64 (l j) = Value.int .i64 (if j = n then x else l j)
    rw [if_neg (by omega)]
  · simp

theorem parts3 : (Try.prog.info? 3).map (fun i => (i.zero, i.size, i.bytes)) = some (some (.int .i64 0), 1, 8) := by kernel_rfl

theorem ints_of_owns {w : World} {B n : Nat} {v : Value} {l : Nat → Int} (h : w.ownsRow B 3 1 v n (intR l n)) : ∃ A cap, v = .slice A n cap ∧ Ints w A n cap l ∧ ∀ a, A = some a → B ≤ a.block := by
  rcases id h.2 with ⟨rfl, rfl⟩ | ⟨g, cap, cur, rfl, hg, hh, hn, hm, _⟩
  · exact ⟨none, 0, rfl, Ints.none w l, fun a e => by cases e⟩
  · have hlt : g < w.heap.size := Blk.lt (cs := cur) hh
    refine ⟨_, cap, rfl, ⟨hn, fun e => by (cases e), by unfold maxLen at hm; omega, fun h0 => ⟨g, 0, rfl, hlt, fun j hj => ?_⟩⟩, fun a e => by injection e with e; subst e; exact hg⟩
    rw [Nat.zero_add, h.cellAt j (by omega)]
    simp [intR, hj]

theorem one_new7 (W : World) (v : Value) (t : TypeId) : ∀ ad, some (⟨W.heap.size, 0, none⟩ : Addr) = some ad → ∀ j u, [v][j]? = some u → (W.alloc (.cells #[v] t)).cell? (ad.add j) = some u := by
  intro ad had j u hu
  injection had with had
  subst had
  have e1 : (⟨W.heap.size, 0, none⟩ : Addr).add j = ⟨W.heap.size, j, none⟩ := by unfold Addr.add; split <;> simp_all
  rw [e1, (Blk.new W t #[v]).cell]
  simpa using hu

theorem _root_.Go.Flo.Keep.over {own own' : List Nat} {w w' w'' : World} (h : Keep own w w') (k : Keep own' w' w'') (ho : ∀ k ∈ own', w.heap.size ≤ k) : Keep own w w'' :=
  ⟨k.os.trans h.os, k.tape.trans h.tape, k.output.trans h.output, Nat.le_trans h.size k.size, fun i hi hm => (k.block i (Nat.lt_of_lt_of_le hi h.size) (fun hx => by have := ho i hx; omega)).trans (h.block i hi hm)⟩

theorem own_grown {w w' : World} {B n size : Nat} {v : Value} {e : TypeId} {xs : List Value} (_ : w.ownsRow B e size v n xs) (hg : w.grownBy w' v.ownBlock) : Keep v.ownBlock.toList w w' := Keep.grown hg (fun k _ e => by simp [e])

theorem own_above {w : World} {B n size : Nat} {v : Value} {e : TypeId} {xs : List Value} (h : w.ownsRow B e size v n xs) : ∀ k ∈ v.ownBlock.toList, B ≤ k := fun k hk => by
  simp at hk
  exact (h.lt k hk).1

/-- A table that stands below what has turned. -/
theorem Tbl.above {w5 w w' : World} {L : TLoc} {C : Cf} {U U5 T T5 : Nat → Bool} {own : List Nat} (h : Tbl w L C U T) (hk : Keep own w w') (ho : ∀ k ∈ own, w5.heap.size ≤ k) (h5 : Tbl w5 L C U5 T5) : Tbl w' L C U T := by
  have e1 := h5.blk
  obtain ⟨A5, c5, hb5⟩ := e1
  have l1 := hb5.lt
  have l2 := h5.used.blk.lt
  have l3 := h5.used.row.lt
  have l4 := h5.taken.blk.lt
  have l5 := h5.taken.row.lt
  obtain ⟨A, cap, hb⟩ := h.blk
  exact ⟨⟨A, cap, hb.keep hk (fun hm => by have := ho _ hm; omega)⟩, h.used.keep hk (fun hm => by have := ho _ hm; omega) (fun hm => by have := ho _ hm; omega), h.taken.keep hk (fun hm => by have := ho _ hm; omega) (fun hm => by have := ho _ hm; omega), h.sub, h.tur, h.tkr, h.mm, h.rm, h.rr⟩

/-- Blocks that were reserved, each once. -/
def Got (C : Cf) (U T : Nat → Bool) (l : Nat → Int) (n : Nat) : Prop := ∀ j, j < n → ∃ k : Nat, l j = k ∧ k < C.all ∧ T k = true ∧ U k = false ∧ nmB l j k = false

theorem Got.zero (C : Cf) (U T : Nat → Bool) (l : Nat → Int) : Got C U T l 0 := fun j hj => by omega

theorem Got.taken {C : Cf} {U T : Nat → Bool} {l : Nat → Int} {n : Nat} (h : Got C U T l n) (i : Nat) : Got C U (upd T i true) l n := fun j hj => by
  obtain ⟨k, h1, h2, h3, h4, h5⟩ := h j hj
  refine ⟨k, h1, h2, ?_, h4, h5⟩
  unfold upd
  split
  · rfl
  · exact h3

theorem Got.next {C : Cf} {U T : Nat → Bool} {l : Nat → Int} {n : Nat} (h : Got C U T l n) {i : Nat} (hi : i < C.all) (ht : T i = false) (hu : U i = false) : Got C U (upd T i true) (fun j => if j = n then (i : Int) else l j) (n + 1) := by
  have hnm : ∀ m, m ≤ n → nmB (fun j => if j = n then (i : Int) else l j) m = nmB l m := fun m hm => nmB_congr fun j hj => by
    show (if j = n then _ else _) = _
    rw [if_neg (by omega)]
  intro j hj
  rcases Nat.lt_or_ge j n with hl | hl
  · obtain ⟨k, h1, h2, h3, h4, h5⟩ := h.taken i j hl
    exact ⟨k, by show (if j = n then _ else _) = _; rw [if_neg (by omega)]; exact h1, h2, h3, h4, by rw [hnm j (by omega)]; exact h5⟩
  · obtain rfl : j = n := by omega
    refine ⟨i, by show (if j = j then _ else _) = _; rw [if_pos rfl], hi, upd_same _ _ _, hu, ?_⟩
    rw [hnm j (Nat.le_refl _)]
    cases hb : nmB l j i
    · rfl
    · obtain ⟨q, hq, e⟩ := (nmB_iff l j i).1 hb
      obtain ⟨k, h1, _, h3, _⟩ := h q hq
      rw [h1, Int.toNat_natCast] at e
      rw [e, ht] at h3
      cases h3

theorem Got.ne {C : Cf} {U T : Nat → Bool} {l : Nat → Int} {n : Nat} (h : Got C U T l n) {i : Nat} (ht : T i = false) {j : Nat} (hj : j < n) : l j ≠ i := by
  obtain ⟨k, h1, _, h3, _⟩ := h j hj
  rw [h1]
  intro e
  have e' : k = i := by omega
  rw [e', ht] at h3
  cases h3

theorem Got.ok {C : Cf} {U T : Nat → Bool} {l : Nat → Int} : ∀ {n : Nat}, Got C U T l n → okT (rb U T) l n = true
  | 0, _ => rfl
  | n + 1, h => by
    obtain ⟨k, h1, _, h3, h4, h5⟩ := h n (by omega)
    show (okT (rb U T) l n && (rb U T (l n) && !nmB l n (l n).toNat)) = true
    rw [Got.ok (n := n) (fun j hj => h j (by omega)), h1, Int.toNat_natCast, h5]
    simp [rb, gb, h3, h4]

theorem okT_gb {B : Nat → Bool} {l : Nat → Int} : ∀ {n : Nat}, (∀ j, j < n → ∃ k : Nat, l j = k ∧ B k = true ∧ nmB l j k = false) → okT (gb B) l n = true
  | 0, _ => rfl
  | n + 1, h => by
    obtain ⟨k, h1, h3, h5⟩ := h n (by omega)
    show (okT (gb B) l n && (gb B (l n) && !nmB l n (l n).toNat)) = true
    rw [okT_gb (n := n) (fun j hj => h j (by omega)), h1, Int.toNat_natCast, h5, gb_nat, h3]
    rfl

theorem Got.back {C : Cf} {U T : Nat → Bool} {l : Nat → Int} {n : Nat} (h : Got C U T l n) : okT (gb (put U l true n)) l n = true :=
  okT_gb fun j hj => by
    obtain ⟨k, h1, _, _, _, h5⟩ := h j hj
    refine ⟨k, h1, ?_, h5⟩
    rw [put_eq, (nmB_iff l n k).2 ⟨j, hj, by rw [h1, Int.toNat_natCast]⟩]
    rfl

/-- What is named was not used. -/
theorem Got.off {C : Cf} {U T : Nat → Bool} {l : Nat → Int} {n : Nat} (h : Got C U T l n) {i : Nat} (hi : nmB l n i = true) : U i = false := by
  obtain ⟨j, hj, e⟩ := (nmB_iff l n i).1 hi
  obtain ⟨k, h1, _, _, h4, _⟩ := h j hj
  rw [h1, Int.toNat_natCast] at e
  rw [← e]
  exact h4

theorem Got.round {C : Cf} {U T : Nat → Bool} {l : Nat → Int} {n : Nat} (h : Got C U T l n) : put (put U l true n) l false n = U := by
  funext i
  rw [put_eq, put_eq]
  cases hi : nmB l n i
  · rfl
  · exact (h.off hi).symm

/-- A word has changed where it has a bit that was named. -/
theorem Got.word {C : Cf} {U T : Nat → Bool} {l : Nat → Int} {n : Nat} (h : Got C U T l n) (k : Nat) : pack U k = pack (put U l true n) k ↔ pack (nmB l n) k = 0 := by
  constructor
  · intro e
    refine pack_zero fun j hj => ?_
    have e2 : (pack U k).testBit j = (pack (put U l true n) k).testBit j := by rw [e]
    rw [pack_bit, pack_bit, put_eq] at e2
    simp only [hj, decide_true, Bool.true_and] at e2
    cases hi : nmB l n (64 * k + j)
    · rfl
    · rw [hi, h.off hi] at e2
      simp at e2
  · intro e
    refine pack_congr fun j hj => ?_
    have e2 := pack_bit (nmB l n) k j
    rw [e, Nat.zero_testBit] at e2
    simp only [hj, decide_true, Bool.true_and] at e2
    rw [put_eq, ← e2]
    rfl

theorem Got.some {C : Cf} {U T : Nat → Bool} {l : Nat → Int} {n : Nat} (h : Got C U T l n) (hn : 0 < n) : ∃ k, k < nw C.all ∧ pack (nmB l n) k ≠ 0 := by
  obtain ⟨k, h1, h2, _⟩ := h 0 hn
  refine ⟨k / 64, nw_lt h2, fun e => ?_⟩
  have e2 := pack_bit (nmB l n) (k / 64) (k % 64)
  rw [e, Nat.zero_testBit, show 64 * (k / 64) + k % 64 = k by omega, (nmB_iff l n k).2 ⟨0, hn, by rw [h1, Int.toNat_natCast]⟩] at e2
  have : k % 64 < 64 := by omega
  simp [this] at e2

theorem and_sub {B B' : Nat → Bool} {k : Nat} (h : ∀ i, B i = true → B' i = true) : bits .and .u64 ((pack B' k : Nat) : Int) ((pack B k : Nat) : Int) = ((pack B k : Nat) : Int) := by
  rw [u64_and_nat _ _ (pack_lt _ _) (pack_lt _ _)]
  have e : pack B' k &&& pack B k = pack B k := by
    refine Nat.eq_of_testBit_eq fun j => ?_
    rw [Nat.testBit_and, pack_bit, pack_bit]
    by_cases hj : j < 64
    · simp only [hj, decide_true, Bool.true_and]
      cases hb : B (64 * k + j)
      · simp
      · rw [h _ hb]; rfl
    · simp [hj]
  rw [e]

set_option maxHeartbeats 1000000 in
theorem same_gen (w : World) (g c g' c' k : Nat) (B B' : Nat → Bool) (hk : k ≤ 65536) (ha : Row w 64 g k c (wv B)) (hb : Row w 64 g' k c' (wv B')) :
    Calls Try.prog 27 #[.slice (some ⟨g, 0, none⟩) k c, .slice (some ⟨g', 0, none⟩) k c'] w fun e w' => e = .returned (.bool (decide (∀ j, j < k → pack B j = pack B' j))) ∧ Dr w w' := by
  have HA := Lib.hid (fun (j : Nat) (hj : j < k) => (ha.cell hj : w.cell? ⟨g, j, none⟩ = some (.int .u64 (pack B j : Nat))))
  have HB := Lib.hid (fun (j : Nat) (hj : j < k) => (hb.cell hj : w.cell? ⟨g', j, none⟩ = some (.int .u64 (pack B' j : Nat))))
  clear ha hb
  obtain ⟨R, hR⟩ : ∃ R, decide (∀ j, j < k → pack B j = pack B' j) = R := ⟨_, rfl⟩
  rw [hR]
  have HR := Lib.hid hR
  clear hR
  go_enter Try.func27, Try.ntmps27
  go_wp2
  go_loopw [13] (fun x wr => (∃ j : Nat, j ≤ k ∧ x = .int .i64 j ∧ ∀ i, i < j → pack B i = pack B' i) ∧ Dr w wr) (fun x _ => k - (intOf x).toNat)
  case atStart => exact ⟨⟨0, by omega, rfl, fun i hi => by omega⟩, Dr.refl _⟩
  case round =>
    obtain ⟨⟨j, hj, rfl, hall⟩, hd⟩ := hrel
    obtain ⟨m, rfl⟩ := hd
    have HL := Lib.hid hall
    clear hall
    by_cases hlt : j < k
    · have ca := HA.out j hlt
      have cb := HB.out j hlt
      obtain ⟨y, hy⟩ : ∃ y : Int, y = ((pack B j : Nat) : Int) := ⟨_, rfl⟩
      obtain ⟨z, hz⟩ : ∃ z : Int, z = ((pack B' j : Nat) : Int) := ⟨_, rfl⟩
      unfold wv at ca cb
      rw [← hy] at ca
      rw [← hz] at cb
      by_cases hyz : y = z
      · have HN := Lib.hid (fun i (hi : i < j + 1) => (by
          rcases Nat.lt_or_ge i j with h | h
          · exact HL.out i h
          · obtain rfl : i = j := by omega
            omega : pack B i = pack B' i))
        subst hyz
        clear hy hz
        go_wp2
        go_quiet (fail)
        go_wp2
        go_roundw
        case rel => exact ⟨⟨j + 1, by omega, by go_num, HN.out⟩, Dr.drewN _ _⟩
        case measure => simp [intOf]; omega
      · have hRf : R = false := by
          rw [← HR.out]
          exact decide_eq_false fun h => hyz (by have := h j hlt; omega)
        subst hRf
        clear hy hz
        go_wp2
        go_quiet (fail)
        go_wp2
        go_ret
        exact ⟨rfl, (Dr.drewN _ _).trans (Dr.drewN _ _)⟩
    · have hjk : j = k := by omega
      subst hjk
      have hRt : R = true := by
        rw [← HR.out]
        exact decide_eq_true HL.out
      subst hRt
      go_wp2
      go_ret
      exact ⟨rfl, Dr.drewN _ _⟩
end Go.Proofs.Ytfihaaciaobolaa
