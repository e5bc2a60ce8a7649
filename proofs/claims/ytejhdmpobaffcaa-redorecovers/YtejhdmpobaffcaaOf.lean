/-
  Of: a device of words that came in. No conditions but that there are few words.
-/
import Derived.Test.YtejhdmpobaffcaaMake
namespace Go.Proofs.Ytejhdmpobaffcaa
open Go.RowKit Go.Flo
set_option maxRecDepth 100000

theorem dev_built {w W : World} {n d r s t f rc sc : Nat} {fn : Nat → Int} (hn : n ≤ 65536) (hr : Row W 44 r n rc (u64 fn)) (hs : Row W 44 s n sc (u64 fn)) (ht : Row W 44 t n n (u64 fun _ => 0)) (hf : Row W 4 f (nl n) (nl n) (bl fun _ => false))
    (ne : r ≠ s ∧ r ≠ t ∧ r ≠ f ∧ s ≠ t ∧ s ≠ f ∧ t ≠ f) (fr : w.heap.size ≤ r ∧ w.heap.size ≤ s ∧ w.heap.size ≤ t ∧ w.heap.size ≤ f) (hk : Keep [] w W) (hd : d = W.heap.size) :
    DevPost (ofS n fn) w (.returned (.pointer (some ⟨d, 0, none⟩))) (W.alloc (.cells #[.slice (some ⟨r, 0, none⟩) n rc, .slice (some ⟨s, 0, none⟩) n sc, .slice (some ⟨t, 0, none⟩) n n, .slice (some ⟨f, 0, none⟩) (nl n) (nl n), .int .i64 0, .int .i64 0, .bool false] 71)) := by
  subst hd
  obtain ⟨n1, n2, n3, n4, n5, n6⟩ := ne
  obtain ⟨f1, f2, f3, f4⟩ := fr
  have l1 := hr.lt
  have l2 := hs.lt
  have l3 := ht.lt
  have l4 := hf.lt
  have hs0 := hk.size
  refine ⟨⟨W.heap.size, r, s, t, f, rc, sc, n, nl n⟩, rfl, ?_, ?_, hk.trans (Keep.alloc _ _)⟩
  · exact { blk := Blk.new W 71 _, r := hr.keep (own := []) (Keep.alloc _ _) (by simp), s := hs.keep (own := []) (Keep.alloc _ _) (by simp), t := ht.keep (own := []) (Keep.alloc _ _) (by simp), f := hf.keep (own := []) (Keep.alloc _ _) (by simp), dr := by dsimp only; omega, ds := by dsimp only; omega, dt := by dsimp only; omega, df := by dsimp only; omega, rs := n1, rt := n2, rf := n3, st := n4, sf := n5, tf := n6, n := hn, fuse0 := by simp [ofS], fuse1 := by simp [ofS] }
  · simp only [Loc.own, List.mem_cons, List.not_mem_nil, or_false]
    rintro k (rfl | rfl | rfl | rfl | rfl) <;> omega

set_option maxHeartbeats 4000000 in
theorem of_any (w : World) (ad : Addr) (n c : Nat) (f : Nat → Int) (hn : n ≤ 65536) (hnc : n ≤ c) (hcm : c ≤ 9223372036854775807) (hc : ∀ j, j < n → w.cell? (ad.add j) = some (u64 f j)) (hb : ad.block < w.heap.size) :
    Calls Try.prog 55 #[.slice (some ad) n c] w (DevPost (ofS n f) w) := by
  have HC := Lib.hid hc
  clear hc
  have i1 : (n : Int) ≤ 65536 := by omega
  have i2 : (n : Int) ≤ c := by omega
  have hcl : ∀ W, Keep [] w W → Calls Try.prog 52 #[.slice (some ad) n c] W (RowPost 44 n (u64 f) W) := fun W hK =>
    clone_any W ad n c f hn (fun j hj => (hK.cell (by rw [add_block]; exact hb) (by simp)).trans (HC.out j hj)) (Nat.lt_of_lt_of_le hb hK.size)
  have HCL := Lib.hid hcl
  clear hcl
  obtain ⟨i28, hi28, z28a, z28b, z28c⟩ := info_parts parts28
  obtain ⟨i4, hi4, z4a, z4b, z4c⟩ := info_parts parts4
  have hm1 : ∀ W : World, (Instr.makeSlice 25 (.int .i64 n) (.int .i64 n)).run Try.prog W = .ok (.slice (some ⟨W.heap.size, 0, none⟩) n n) (W.alloc (.cells (madeCells (Value.int .u64 0).cells (n * 1)) 44)) := by
    intro W
    have := run_make (P := Try.prog) W 25 44 i28 (.int .u64 0) Try.underlying25 hi28 z28a .i64 .i64 n n (by omega) (by omega) (by rw [z28c]; omega) (by omega)
    rw [z28b] at this
    simpa using this
  have hm2 : ∀ W : World, (Instr.makeSlice 69 (.int .i64 (nl n : Nat)) (.int .i64 (nl n : Nat))).run Try.prog W = .ok (.slice (some ⟨W.heap.size, 0, none⟩) (nl n) (nl n)) (W.alloc (.cells (madeCells (Value.bool false).cells (nl n * 1)) 4)) := by
    intro W
    have hl : nl n ≤ 65536 := by unfold nl; omega
    have := run_make (P := Try.prog) W 69 4 i4 (.bool false) Try.underlying69 hi4 z4a .i64 .i64 (nl n : Nat) (nl n : Nat) (by omega) (by omega) (by rw [z4c]; omega) (by omega)
    rw [z4b] at this
    simpa using this
  have r1 : ∀ (W : World) (t : Nat), t = W.heap.size → Row (W.alloc (.cells (madeCells (Value.int .u64 0).cells (n * 1)) 44)) 44 t n n (u64 fun _ => 0) := fun W t e => e ▸ Row.made W 44 (.int .u64 0) rfl n (by unfold maxLen; omega)
  have r2 : ∀ (W : World) (t : Nat), t = W.heap.size → Row (W.alloc (.cells (madeCells (Value.bool false).cells (nl n * 1)) 4)) 4 t (nl n) (nl n) (bl fun _ => false) := fun W t e => e ▸ Row.made W 4 (.bool false) rfl (nl n) (by unfold maxLen nl; omega)
  generalize madeCells (Value.int .u64 0).cells (n * 1) = Z1 at *
  generalize madeCells (Value.bool false).cells (nl n * 1) = Z2 at *
  have R1 := Lib.hid r1
  have R2 := Lib.hid r2
  clear r1 r2 hi28 hi4 z28a z28b z28c z4a z4b z4c
  have w1 : IntKind.i64.wrap ((n : Int) + 8) = (n : Int) + 8 := by rw [IntKind.wrap_i64]; omega
  have w2 : IntKind.i64.wrap ((n : Int) + 8 - 1) = (n : Int) + 7 := by rw [IntKind.wrap_i64]; omega
  have w3 : ((n : Int) + 7).tdiv 8 = ((nl n : Nat) : Int) := by rw [Int.tdiv_eq_ediv_of_nonneg (by omega)]; unfold nl; omega
  have w4 : IntKind.i64.wrap ((nl n : Nat) : Int) = ((nl n : Nat) : Int) := by rw [IntKind.wrap_i64]; unfold nl; omega
  go_enter Try.func55, Try.ntmps55
  go_wp2_with fail
  go_region_with (go_at_call 52; refine (HCL.out _ (by repeat (first | (with_reducible exact Keep.refl _ _) | (with_reducible refine Keep.trans ?_ (Keep.alloc _ _)) | (with_reducible refine Keep.trans ?_ (Keep.drew _)) | (refine Keep.trans ?_ (by assumption))))).mono ?_; rintro e w' ⟨g, cap, rfl, hR, hg, hk⟩; have hs := hk.size; have hl := hR.lt; (try simp at hs); (try simp at hg))
  all_goals
    go_wp2
    go_ret
    refine dev_built hn ?_ ?_ ?_ ?_ ?_ ?_ ?_ ?_
    · refine Row.keep (own := []) (by assumption) ?_ (by simp)
      repeat (first | (with_reducible exact Keep.refl _ _) | (with_reducible refine Keep.trans ?_ (Keep.alloc _ _)) | (with_reducible refine Keep.trans ?_ (Keep.drew _)) | (refine Keep.trans ?_ (by assumption)))
    · refine Row.keep (own := []) (by assumption) ?_ (by simp)
      repeat (first | (with_reducible exact Keep.refl _ _) | (with_reducible refine Keep.trans ?_ (Keep.alloc _ _)) | (with_reducible refine Keep.trans ?_ (Keep.drew _)) | (refine Keep.trans ?_ (by assumption)))
    · refine Row.keep (own := []) (R1.out ?_ _ ?_) ?_ (by simp)
      rotate_left 2
      · repeat (first | (with_reducible exact Keep.refl _ _) | (with_reducible refine Keep.trans ?_ (Keep.alloc _ _)) | (with_reducible refine Keep.trans ?_ (Keep.drew _)) | (refine Keep.trans ?_ (by assumption)))
      · simp
    · refine Row.keep (own := []) (R2.out ?_ _ ?_) ?_ (by simp)
      rotate_left 2
      · repeat (first | (with_reducible exact Keep.refl _ _) | (with_reducible refine Keep.trans ?_ (Keep.alloc _ _)) | (with_reducible refine Keep.trans ?_ (Keep.drew _)) | (refine Keep.trans ?_ (by assumption)))
      · simp
    · refine ⟨?_, ?_, ?_, ?_, ?_, ?_⟩ <;> omega
    · refine ⟨?_, ?_, ?_, ?_⟩ <;> omega
    · repeat (first | (with_reducible exact Keep.refl _ _) | (with_reducible refine Keep.trans ?_ (Keep.alloc _ _)) | (with_reducible refine Keep.trans ?_ (Keep.drew _)) | (refine Keep.trans ?_ (by assumption)))
    · simp
end Go.Proofs.Ytejhdmpobaffcaa
