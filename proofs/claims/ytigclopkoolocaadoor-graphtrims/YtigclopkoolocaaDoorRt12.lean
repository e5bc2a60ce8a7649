/-
  The document's own twin's Text of a graph: what it returns. Conditions: a graph in memory, of numbers of 64 bits, not longer than a text may be; what the library's tables hold.
-/
import Derived.Test.YtigclopkoolocaaDoorBl3
namespace Go.Proofs.YtigclopkoolocaaDoor
open Go.RowKit Go.Flo Go.Lib Go.Bit
set_option maxRecDepth 100000

theorem bs_size (l : List UInt8) : (bs l).size = l.length := by simp [bs, ByteArray.size]

theorem idxs0 (W : World) : (Instr.index 61 (.agg #[.string { data := #[114, 111, 111, 116, 115] }, .string { data := #[119, 101, 97, 107, 115] }]) (.int .i64 0)).run Tryd.prog W = .ok (.string { data := #[114, 111, 111, 116, 115] }) W := by kernel_rfl

theorem idxs1 (W : World) : (Instr.index 61 (.agg #[.string { data := #[114, 111, 111, 116, 115] }, .string { data := #[119, 101, 97, 107, 115] }]) (.int .i64 1)).run Tryd.prog W = .ok (.string { data := #[119, 101, 97, 107, 115] }) W := by kernel_rfl

/-- The rows behind the nodes, so many of them. -/
def partT (g : Gr) (k : Nat) : List UInt8 := if k = 0 then [] else if k = 1 then ([114, 111, 111, 116, 115] ++ (toksT (g.roots.map itoa) ++ [10])) else (([114, 111, 111, 116, 115] ++ (toksT (g.roots.map itoa) ++ [10])) ++ ([119, 101, 97, 107, 115] ++ (toksT (g.weaks.map itoa) ++ [10])))

set_option maxHeartbeats 8000000 in
theorem rgtext_any (w : World) (A0 A1 A2 : Option Addr) (c0 c1 c2 : Nat) (g : Gr) (h : GIn w A0 A1 A2 c0 c1 c2 g) (hs : Slim g) (hN : GrN g) (hT : Tabs w) :
    Calls Tryd.prog 12 #[.agg #[.slice A0 g.nodes.length c0, .slice A1 g.roots.length c1, .slice A2 g.weaks.length c2]] w (GTPost g w) := by
  unfold GTPost
  have ka : Keep [] w (w.alloc (.cells #[.slice A0 g.nodes.length c0, .slice A1 g.roots.length c1, .slice A2 g.weaks.length c2] 25)) := Keep.alloc _ _
  have hba := Blk.new w 25 #[.slice A0 g.nodes.length c0, .slice A1 g.roots.length c1, .slice A2 g.weaks.length c2]
  obtain ⟨w1, hw1⟩ : ∃ w1, w1 = w.alloc (.cells #[.slice A0 g.nodes.length c0, .slice A1 g.roots.length c1, .slice A2 g.weaks.length c2] 25) := ⟨_, rfl⟩
  rw [← hw1] at ka hba
  have hmay := rmayg_any w1 A0 A1 A2 c0 c1 c2 g (h.keep ka)
  by_cases hM : MayG g
  case neg =>
    rw [decide_eq_false hM] at hmay
    rw [show grTE g = [] from if_neg hM]
    have HKA := Lib.hid ka
    have f0 := (hba.cell 0).trans (show _ = some (Value.slice A0 g.nodes.length c0) from rfl)
    have f1 := (hba.cell 1).trans (show _ = some (Value.slice A1 g.roots.length c1) from rfl)
    have f2 := (hba.cell 2).trans (show _ = some (Value.slice A2 g.weaks.length c2) from rfl)
    clear h hs hN hT hM ka hba
    generalize g.nodes.length = n0 at *
    generalize g.roots.length = n1 at *
    generalize g.weaks.length = n2 at *
    go_enter Tryd.func12, Tryd.ntmps12
    go_wp2_with fail
    rw [← hw1]
    clear hw1
    (with_reducible refine hmay.mono ?_)
    rintro e w2 ⟨rfl, k2⟩
    have HK2 := Lib.hid (HKA.out.trans k2)
    clear k2 hmay f0 f1 f2
    go_wp2
    go_ret
    exact ⟨rfl, HK2.out⟩
  rw [decide_eq_true hM] at hmay
  rw [show grTE g = grT g from if_pos hM]
  obtain ⟨Z, hZ⟩ : ∃ Z, bs (grT g) = Z := ⟨_, rfl⟩
  rw [hZ]
  have HZ := Lib.hid hZ
  have hnc := h.nodes.nc
  have hncm := h.nodes.cap
  have hnc1 := h.roots.nc
  have hncm1 := h.roots.cap
  have hnc2 := h.weaks.nc
  have hncm2 := h.weaks.cap
  obtain ⟨n0, hn0⟩ : ∃ n, g.nodes.length = n := ⟨_, rfl⟩
  obtain ⟨n1, hn1⟩ : ∃ n, g.roots.length = n := ⟨_, rfl⟩
  obtain ⟨n2, hn2⟩ : ∃ n, g.weaks.length = n := ⟨_, rfl⟩
  have hn96 : n0 ≤ 4096 := by rw [← hn0]; exact hM.1
  have hn165 : n1 ≤ 65536 := by rw [← hn1]; exact hs.1
  have hn265 : n2 ≤ 65536 := by rw [← hn2]; exact hs.2.1
  have hNB : ∀ x ∈ g.nodes, ((-9223372036854775808 ≤ x.K ∧ x.K ≤ 9223372036854775807) ∧ ∀ v ∈ x.fs, VBd v) ∧ x.fs.length ≤ 65536 := fun x hx => ⟨hN x hx, slim_mem hs hx⟩
  have hMV : ∀ x ∈ g.nodes, ∀ v ∈ x.fs, 0 ≤ v.K ∧ v.K ≤ 3 := fun x hx v hv => ⟨(hM.2.2.2 x hx v hv).1, (hM.2.2.2 x hx v hv).2.1⟩
  have hrl : (toksT (g.roots.map itoa)).length ≤ 22 * 65536 := by have := ints_len (l := g.roots) (fun r hr => mayI_bd hM.1 (hM.2.1 r hr)); omega
  have hnl : (nodesT g.nodes).length ≤ 9395331072 := by have := nodes_len hNB; omega
  have HG := Lib.hid (And.intro h (And.intro hn0 (And.intro hNB (And.intro hMV (And.intro h.roots (And.intro h.weaks (And.intro (fun r hr => mayI_bd hM.1 (hM.2.1 r hr) : ∀ r ∈ g.roots, -9223372036854775808 ≤ r ∧ r ≤ 9223372036854775807) (fun r hr => mayI_bd hM.1 (hM.2.2.1 r hr) : ∀ r ∈ g.weaks, -9223372036854775808 ≤ r ∧ r ≤ 9223372036854775807))))))))
  have HL := Lib.hid (And.intro hn1 hn2)
  have HT := Lib.hid hT
  rw [hn0, hn1, hn2] at hmay hba hw1
  rw [hn0] at hnc
  rw [hn1] at hnc1
  rw [hn2] at hnc2
  rw [hn0, hn1, hn2]
  have hbsz : w1.heap.size = w.heap.size + 1 := by rw [hw1]; simp
  have HKA := Lib.hid (And.intro ka (And.intro hba hbsz))
  have f0 := (hba.cell 0).trans (show _ = some (Value.slice A0 n0 c0) from rfl)
  have f1 := (hba.cell 1).trans (show _ = some (Value.slice A1 n1 c1) from rfl)
  have f2 := (hba.cell 2).trans (show _ = some (Value.slice A2 n2 c2) from rfl)
  clear h hs hN hT hM ka hba hn0 hn1 hn2 hNB hMV hbsz hZ
  go_enter Tryd.func12, Tryd.ntmps12
  go_wp2_with fail
  rw [← hw1]
  clear hw1
  (with_reducible refine hmay.mono ?_)
  rintro e w2 ⟨rfl, k2⟩
  have hb2 := HKA.out.2.1.keep k2 (by simp)
  have f0 := (hb2.cell 0).trans (show _ = some (Value.slice A0 n0 c0) from rfl)
  have H3 := Lib.hid (And.intro (HKA.out.1.trans k2) hb2)
  clear hmay k2 hb2 f1 f2
  go_wp2
  go_loopw [3, 18] (fun s x wr => ∃ (S : ByteArray) (j : Nat), j ≤ n0 ∧ s = .string S ∧ x = .int .i64 j ∧ S = bs (nodesT (g.nodes.take j)) ∧ Keep [] w2 wr) (fun _ x _ => n0 - (RowKit.intOf x).toNat)
  case atStart => exact ⟨{ data := #[] }, 0, by omega, rfl, rfl, rfl, Keep.refl _ _⟩
  case round =>
  obtain ⟨S, j, hj, rfl, rfl, hS, hK⟩ := hrel
  have hpl : (nodesT (g.nodes.take j)).length ≤ 2293782 * j := by
    have h := nodes_len (l := g.nodes.take j) (fun x hx => HG.out.2.2.1 x (List.mem_of_mem_take hx))
    rwa [List.length_take, HG.out.2.1, Nat.min_eq_left hj] at h
  have hSz : S.size ≤ 2293782 * j := by rw [hS, bs_size]; exact hpl
  by_cases hlt : j < n0
  case neg =>
    obtain rfl : j = n0 := by omega
    rw [show g.nodes.take j = g.nodes from List.take_of_length_le (by rw [HG.out.2.1]; exact Nat.le_refl _)] at hS
    have hbx := H3.out.2.keep hK (by simp)
    have f1 := (hbx.cell 1).trans (show _ = some (Value.slice A1 n1 c1) from rfl)
    have f2 := (hbx.cell 2).trans (show _ = some (Value.slice A2 n2 c2) from rfl)
    have HS := Lib.hid hS
    have HKK := Lib.hid (H3.out.1.trans hK)
    clear f0 hS hK hbx hpl hSz
    go_wp2
    go_loopw [3, 48] (fun s x wr => ∃ (S : ByteArray) (k : Nat), k ≤ 2 ∧ s = .string S ∧ x = .int .i64 k ∧ S = bs (nodesT g.nodes ++ partT g k) ∧ Keep [] w wr) (fun _ x _ => 2 - (RowKit.intOf x).toNat)
    case atStart => exact ⟨S, 0, by omega, rfl, rfl, by rw [HS.out]; simp [partT], HKK.out⟩
    case round =>
    clear f1 f2 HS HKK
    generalize S = S9 at *
    obtain ⟨S, k, hk, rfl, rfl, hS, hkk⟩ := hrel
    rcases (show k = 0 ∨ k = 1 ∨ k = 2 by omega) with rfl | rfl | rfl
    rotate_left 2
    · have hend : S = Z := by
        rw [hS, ← HZ.out]
        unfold partT grT
        rw [if_neg (by decide), if_neg (by decide)]
      have HKK := Lib.hid hkk
      clear hS hkk
      subst hend
      go_wp2
      go_ret
      exact ⟨rfl, HKK.out⟩
    · have HS := Lib.hid (show S = bs (nodesT g.nodes ++ ([] : List UInt8)) from hS)
      clear hS
      obtain ⟨S1, hS1⟩ : ∃ S1, S ++ { data := #[114, 111, 111, 116, 115] } = S1 := ⟨_, rfl⟩
      have hS1b : S1 = bs (nodesT g.nodes ++ (([] : List UInt8) ++ [114, 111, 111, 116, 115])) := by
        rw [← hS1, HS.out, show (( { data := #[114, 111, 111, 116, 115] } : ByteArray)) = bs [114, 111, 111, 116, 115] from rfl, bs_append]
        simp
      have hz0 : ¬ 9223372036854775807 < S.size + 5 := by rw [HS.out, bs_size, List.length_append]; simp only [List.length_nil, List.length_append, List.length_cons]; omega
      have HS1 := Lib.hid hS1b
      have HKK := Lib.hid hkk
      clear hS1b hkk
      have hx2 := fun W => idx20 W A1 A2 n1 n2 c1 c2
      have hxs := fun W => idxs0 W
      go_wp2
      try rw [hS1]
      clear hS1 hz0
      go_loopw [3, 59] (fun s x wr => ∃ (S : ByteArray) (j : Nat), j ≤ n1 ∧ s = .string S ∧ x = .int .i64 j ∧ S = bs (nodesT g.nodes ++ (([] : List UInt8) ++ [114, 111, 111, 116, 115]) ++ toksT ((g.roots.take j).map itoa)) ∧ Keep [] w wr) (fun _ x _ => n1 - (RowKit.intOf x).toNat)
      case atStart => exact ⟨S1, 0, by omega, rfl, rfl, by rw [HS1.out]; simp [toksT], HKK.out⟩
      case round =>
      obtain ⟨S2, j, hj, rfl, rfl, hS2, hK2⟩ := hrel
      have hbnd : ∀ r ∈ g.roots, -9223372036854775808 ≤ r ∧ r ≤ 9223372036854775807 := HG.out.2.2.2.2.2.2.1
      have hlen : (toksT ((g.roots.take j).map itoa)).length ≤ 22 * j := by
        have h := ints_len (l := g.roots.take j) (fun r hr => hbnd r (List.mem_of_mem_take hr))
        rwa [List.length_take, HL.out.1, Nat.min_eq_left hj] at h
      have hsz : S2.size ≤ 10000000000 := by rw [hS2, bs_size, List.length_append, List.length_append]; simp only [List.length_nil, List.length_append, List.length_cons]; omega
      by_cases hlt2 : j < n1
      case neg =>
        obtain rfl : j = n1 := by omega
        rw [show g.roots.take j = g.roots from List.take_of_length_le (by rw [HL.out.1]; exact Nat.le_refl _)] at hS2
        obtain ⟨S3, hS3⟩ : ∃ S3, S2 ++ { data := #[10] } = S3 := ⟨_, rfl⟩
        have hS3b : S3 = bs (nodesT g.nodes ++ partT g 1) := by
          rw [← hS3, hS2, show (( { data := #[10] } : ByteArray)) = bs [10] from rfl, bs_append]
          simp [partT]
        have hz0 : ¬ 9223372036854775807 < S2.size + 1 := by omega
        have HS3 := Lib.hid hS3b
        have HK2 := Lib.hid hK2
        clear hS2 hS3b hK2 hlen hbnd hsz
        go_wp2
        try rw [hS3]
        go_roundw
        case rel => exact ⟨S3, 1, by omega, rfl, by first | rfl | go_num, HS3.out, HK2.out⟩
        case measure => simp [RowKit.intOf]
      have hlj : j < g.roots.length := by rw [HL.out.1]; exact hlt2
      obtain ⟨bR, oR, rfl, hbR, hcR⟩ := HG.out.2.2.2.2.1.cells (by omega)
      have cj := (hK2.cell (p := ⟨bR, oR + j, none⟩) hbR (by simp)).trans (hcR j hlj)
      obtain ⟨x, hx⟩ : ∃ x, g.roots.getD j 0 = x := ⟨_, rfl⟩
      rw [hx] at cj
      have hxm : x ∈ g.roots := by rw [← hx, List.getD_eq_getElem?_getD, List.getElem?_eq_getElem hlj]; exact List.getElem_mem hlj
      have hxb := hbnd x hxm
      have hIt := itoa_any x hxb.1 hxb.2 wr (HT.out.keep hK2)
      have hzY : (bs (itoa x)).size ≤ 21 := Lib.itoa_length_le x hxb.1 hxb.2
      have ht : g.roots.take (j + 1) = g.roots.take j ++ [x] := by
        rw [List.take_add_one, List.getElem?_eq_getElem hlj, ← hx, List.getD_eq_getElem?_getD, List.getElem?_eq_getElem hlj]
        rfl
      obtain ⟨S3, hS3⟩ : ∃ S3, S2 ++ ({ data := #[32] } ++ bs (itoa x)) = S3 := ⟨_, rfl⟩
      have hS3b : S3 = bs (nodesT g.nodes ++ (([] : List UInt8) ++ [114, 111, 111, 116, 115]) ++ toksT ((g.roots.take (j + 1)).map itoa)) := by
        rw [← hS3, hS2, bs_cons, bs_append, ht, List.map_append, List.map_cons, List.map_nil, toksT_snoc, List.append_assoc]
      have HS3 := Lib.hid hS3b
      have HK2 := Lib.hid hK2
      clear hS2 hS3b hK2 hlen hbnd hxm hxb ht hcR hx
      generalize bs (itoa x) = Y at *
      have hz1 : ¬ 9223372036854775807 < 1 + Y.size := by omega
      have hz2 : ¬ 9223372036854775807 < S2.size + (1 + Y.size) := by omega
      have hz3 : ({ data := #[32] } ++ Y : ByteArray).size = 1 + Y.size := by rw [ByteArray.size_append]; rfl
      have hz4 : ¬ 9223372036854775807 < S2.size + ({ data := #[32] } ++ Y : ByteArray).size := by omega
      go_wp2_with fail
      (with_reducible refine hIt.mono ?_)
      rintro e w4 ⟨rfl, k4⟩
      have HK4 := Lib.hid (HK2.out.trans k4)
      clear k4 hIt cj
      go_wp2
      try rw [hS3]
      go_roundw
      case rel => exact ⟨_, _, _, _, _, _, _, _, _, _, _, _, ⟨S3, j + 1, by omega, rfl, rfl, HS3.out, HK4.out⟩, rfl⟩
      case measure => simp [RowKit.intOf]; omega

    · have HS := Lib.hid (show S = bs (nodesT g.nodes ++ ([114, 111, 111, 116, 115] ++ (toksT (g.roots.map itoa) ++ [10]))) from hS)
      clear hS
      obtain ⟨S1, hS1⟩ : ∃ S1, S ++ { data := #[119, 101, 97, 107, 115] } = S1 := ⟨_, rfl⟩
      have hS1b : S1 = bs (nodesT g.nodes ++ (([114, 111, 111, 116, 115] ++ (toksT (g.roots.map itoa) ++ [10])) ++ [119, 101, 97, 107, 115])) := by
        rw [← hS1, HS.out, show (( { data := #[119, 101, 97, 107, 115] } : ByteArray)) = bs [119, 101, 97, 107, 115] from rfl, bs_append]
        simp
      have hz0 : ¬ 9223372036854775807 < S.size + 5 := by rw [HS.out, bs_size, List.length_append]; simp only [List.length_nil, List.length_append, List.length_cons]; omega
      have HS1 := Lib.hid hS1b
      have HKK := Lib.hid hkk
      clear hS1b hkk
      have hx2 := fun W => idx21 W A1 A2 n1 n2 c1 c2
      have hxs := fun W => idxs1 W
      go_wp2
      try rw [hS1]
      clear hS1 hz0
      go_loopw [3, 59] (fun s x wr => ∃ (S : ByteArray) (j : Nat), j ≤ n2 ∧ s = .string S ∧ x = .int .i64 j ∧ S = bs (nodesT g.nodes ++ (([114, 111, 111, 116, 115] ++ (toksT (g.roots.map itoa) ++ [10])) ++ [119, 101, 97, 107, 115]) ++ toksT ((g.weaks.take j).map itoa)) ∧ Keep [] w wr) (fun _ x _ => n2 - (RowKit.intOf x).toNat)
      case atStart => exact ⟨S1, 0, by omega, rfl, rfl, by rw [HS1.out]; simp [toksT], HKK.out⟩
      case round =>
      obtain ⟨S2, j, hj, rfl, rfl, hS2, hK2⟩ := hrel
      have hbnd : ∀ r ∈ g.weaks, -9223372036854775808 ≤ r ∧ r ≤ 9223372036854775807 := HG.out.2.2.2.2.2.2.2
      have hlen : (toksT ((g.weaks.take j).map itoa)).length ≤ 22 * j := by
        have h := ints_len (l := g.weaks.take j) (fun r hr => hbnd r (List.mem_of_mem_take hr))
        rwa [List.length_take, HL.out.2, Nat.min_eq_left hj] at h
      have hsz : S2.size ≤ 10000000000 := by rw [hS2, bs_size, List.length_append, List.length_append]; simp only [List.length_nil, List.length_append, List.length_cons]; omega
      by_cases hlt2 : j < n2
      case neg =>
        obtain rfl : j = n2 := by omega
        rw [show g.weaks.take j = g.weaks from List.take_of_length_le (by rw [HL.out.2]; exact Nat.le_refl _)] at hS2
        obtain ⟨S3, hS3⟩ : ∃ S3, S2 ++ { data := #[10] } = S3 := ⟨_, rfl⟩
        have hS3b : S3 = bs (nodesT g.nodes ++ partT g 2) := by
          rw [← hS3, hS2, show (( { data := #[10] } : ByteArray)) = bs [10] from rfl, bs_append]
          simp [partT]
        have hz0 : ¬ 9223372036854775807 < S2.size + 1 := by omega
        have HS3 := Lib.hid hS3b
        have HK2 := Lib.hid hK2
        clear hS2 hS3b hK2 hlen hbnd hsz
        go_wp2
        try rw [hS3]
        go_roundw
        case rel => exact ⟨S3, 2, by omega, rfl, by first | rfl | go_num, HS3.out, HK2.out⟩
        case measure => simp [RowKit.intOf]
      have hlj : j < g.weaks.length := by rw [HL.out.2]; exact hlt2
      obtain ⟨bR, oR, rfl, hbR, hcR⟩ := HG.out.2.2.2.2.2.1.cells (by omega)
      have cj := (hK2.cell (p := ⟨bR, oR + j, none⟩) hbR (by simp)).trans (hcR j hlj)
      obtain ⟨x, hx⟩ : ∃ x, g.weaks.getD j 0 = x := ⟨_, rfl⟩
      rw [hx] at cj
      have hxm : x ∈ g.weaks := by rw [← hx, List.getD_eq_getElem?_getD, List.getElem?_eq_getElem hlj]; exact List.getElem_mem hlj
      have hxb := hbnd x hxm
      have hIt := itoa_any x hxb.1 hxb.2 wr (HT.out.keep hK2)
      have hzY : (bs (itoa x)).size ≤ 21 := Lib.itoa_length_le x hxb.1 hxb.2
      have ht : g.weaks.take (j + 1) = g.weaks.take j ++ [x] := by
        rw [List.take_add_one, List.getElem?_eq_getElem hlj, ← hx, List.getD_eq_getElem?_getD, List.getElem?_eq_getElem hlj]
        rfl
      obtain ⟨S3, hS3⟩ : ∃ S3, S2 ++ ({ data := #[32] } ++ bs (itoa x)) = S3 := ⟨_, rfl⟩
      have hS3b : S3 = bs (nodesT g.nodes ++ (([114, 111, 111, 116, 115] ++ (toksT (g.roots.map itoa) ++ [10])) ++ [119, 101, 97, 107, 115]) ++ toksT ((g.weaks.take (j + 1)).map itoa)) := by
        rw [← hS3, hS2, bs_cons, bs_append, ht, List.map_append, List.map_cons, List.map_nil, toksT_snoc, List.append_assoc]
      have HS3 := Lib.hid hS3b
      have HK2 := Lib.hid hK2
      clear hS2 hS3b hK2 hlen hbnd hxm hxb ht hcR hx
      generalize bs (itoa x) = Y at *
      have hz1 : ¬ 9223372036854775807 < 1 + Y.size := by omega
      have hz2 : ¬ 9223372036854775807 < S2.size + (1 + Y.size) := by omega
      have hz3 : ({ data := #[32] } ++ Y : ByteArray).size = 1 + Y.size := by rw [ByteArray.size_append]; rfl
      have hz4 : ¬ 9223372036854775807 < S2.size + ({ data := #[32] } ++ Y : ByteArray).size := by omega
      go_wp2_with fail
      (with_reducible refine hIt.mono ?_)
      rintro e w4 ⟨rfl, k4⟩
      have HK4 := Lib.hid (HK2.out.trans k4)
      clear k4 hIt cj
      go_wp2
      try rw [hS3]
      go_roundw
      case rel => exact ⟨_, _, _, _, _, _, _, _, _, _, _, _, ⟨S3, j + 1, by omega, rfl, rfl, HS3.out, HK4.out⟩, rfl⟩
      case measure => simp [RowKit.intOf]; omega

  have hlj : j < g.nodes.length := by rw [HG.out.2.1]; exact hlt
  obtain ⟨bN, oN, rfl, hbN, hcN⟩ := HG.out.1.nodes.cells (by omega)
  obtain ⟨AF, cF, d0, d1, hvF⟩ := hcN j hlj
  have hkw : Keep [] w wr := H3.out.1.trans hK
  obtain ⟨nd, hnd⟩ : ∃ nd, g.nodes.getD j nod0 = nd := ⟨_, rfl⟩
  rw [hnd] at d0 d1 hvF
  have hmem : nd ∈ g.nodes := by rw [← hnd, List.getD_eq_getElem?_getD, List.getElem?_eq_getElem hlj]; exact List.getElem_mem hlj
  have ht : g.nodes.take (j + 1) = g.nodes.take j ++ [nd] := by
    rw [List.take_add_one, List.getElem?_eq_getElem hlj, ← hnd, List.getD_eq_getElem?_getD, List.getElem?_eq_getElem hlj]
    rfl
  obtain ⟨K0, fs⟩ := nd
  dsimp only at d0 d1 hvF
  have hbd := HG.out.2.2.1 _ hmem
  have hkd := HG.out.2.2.2.1 _ hmem
  dsimp only at hbd hkd
  have d0 := (hkw.cell (p := ⟨bN, _, none⟩) hbN (by simp)).trans d0
  have d1 := (hkw.cell (p := ⟨bN, _, none⟩) hbN (by simp)).trans d1
  have hfc := hvF.nc
  have hfm := hvF.cap
  obtain ⟨m, hm⟩ : ∃ m, fs.length = m := ⟨_, rfl⟩
  rw [hm] at d1 hfc
  have hm65 : m ≤ 65536 := by rw [← hm]; exact hbd.2
  have k4 : Keep [] wr (wr.alloc (.cells #[.int .i64 K0, .slice AF m cF] 33)) := Keep.alloc _ _
  have hb4 := Blk.new wr 33 #[.int .i64 K0, .slice AF m cF]
  obtain ⟨w4, hw4⟩ : ∃ w4, w4 = wr.alloc (.cells #[.int .i64 K0, .slice AF m cF] 33) := ⟨_, rfl⟩
  rw [← hw4] at k4 hb4
  have e0 := (hb4.cell 0).trans (show _ = some (Value.int .i64 K0) from rfl)
  have hIt := itoa_any K0 hbd.1.1.1 hbd.1.1.2 w4 (HT.out.keep (hkw.trans k4))
  have hKl : (bs (itoa K0)).size ≤ 21 := itoa_len K0 hbd.1.1.1 hbd.1.1.2
  have H4 := Lib.hid (And.intro (hK.trans k4) (And.intro hb4 (And.intro hvF (And.intro hbd (And.intro hkd (And.intro ht hm))))))
  have HW4 := Lib.hid hw4
  have hSz9 : S.size ≤ 9395331072 := by omega
  obtain ⟨S1, hS1⟩ : ∃ S1, S ++ bs (itoa K0) = S1 := ⟨_, rfl⟩
  have hS1b : S1 = bs (nodesT (List.take j g.nodes) ++ itoa K0) := by rw [← hS1, hS, bs_append]
  have HS1 := Lib.hid hS1b
  have hPl : (nodesT (List.take j g.nodes) ++ itoa K0).length ≤ 9395331093 := by rw [← bs_size, ← bs_append, ByteArray.size_append, ← hS]; omega
  have HPL := Lib.hid hPl
  generalize bs (itoa K0) = Y at *
  have hz1 : ¬ 9223372036854775807 < S.size + Y.size := by omega
  clear hS hK hpl hSz hkw hcN hvF hbd hkd ht hmem k4 hb4 hw4 hm hnd hS1b hPl hSz9
  go_wp2_with fail
  rw [← HW4.out]
  (with_reducible refine hIt.mono ?_)
  rintro e w5 ⟨rfl, k5⟩
  have hbox := H4.out.2.1.keep k5 (by simp)
  have e1 := (hbox.cell 1).trans (show _ = some (Value.slice AF m cF) from rfl)
  have HK5 := Lib.hid (H4.out.1.trans k5)
  clear k5 hIt e0 d0 d1 f0 hbox
  generalize wr = wo at *
  go_wp2
  try rw [hS1]
  go_loopw [3, 30] (fun s x wr => ∃ (S : ByteArray) (i : Nat), i ≤ m ∧ s = .string S ∧ x = .int .i64 i ∧ S = bs (nodesT (List.take j g.nodes) ++ itoa K0 ++ toksT ((fs.take i).map valT)) ∧ Keep [] w2 wr) (fun _ x _ => m - (RowKit.intOf x).toNat)
  case atStart => exact ⟨S1, 0, by omega, rfl, rfl, by rw [HS1.out]; simp [toksT], HK5.out⟩
  case round =>
  clear hz1 hKl hS1
  obtain ⟨S2, i, hi, rfl, rfl, hS2, hK2⟩ := hrel
  have hvl : (toksT ((fs.take i).map valT)).length ≤ 35 * i := by
    have h := vals_len (l := fs.take i) (fun v hv => H4.out.2.2.2.1.1.2 v (List.mem_of_mem_take hv))
    rwa [List.length_take, H4.out.2.2.2.2.2.2, Nat.min_eq_left hi] at h
  have hsz : S2.size ≤ 10000000000 := by rw [hS2, bs_size, List.length_append]; have := HPL.out; omega
  by_cases hlt2 : i < m
  case neg =>
    obtain rfl : i = m := by omega
    rw [show fs.take i = fs from List.take_of_length_le (by rw [H4.out.2.2.2.2.2.2]; exact Nat.le_refl _)] at hS2
    obtain ⟨S3, hS3⟩ : ∃ S3, S2 ++ { data := #[10] } = S3 := ⟨_, rfl⟩
    have hS3b : S3 = bs (nodesT (g.nodes.take (j + 1))) := by
      rw [← hS3, hS2, show (({ data := #[10] } : ByteArray)) = bs [10] from rfl, bs_append, H4.out.2.2.2.2.2.1, nodesT_snoc]
      simp [nodeT]
    have hz0 : ¬ 9223372036854775807 < S2.size + 1 := by omega
    have HS3 := Lib.hid hS3b
    have HK2 := Lib.hid hK2
    clear hS2 hS3b hK2 hvl hsz e1
    go_wp2
    try rw [hS3]
    go_roundw
    case rel =>
      exact ⟨S3, j + 1, by omega, rfl, by first | rfl | go_num, HS3.out, HK2.out⟩
    case measure => simp [RowKit.intOf]; omega
  have hli : i < fs.length := by rw [H4.out.2.2.2.2.2.2]; exact hlt2
  obtain ⟨bV, oV, rfl, hbV, hcV⟩ := H4.out.2.2.1.cells (by omega)
  have hkw : Keep [] w wr := H3.out.1.trans hK2
  obtain ⟨q0, q1, q2, q3, q4⟩ := hcV i hli
  obtain ⟨v, hv⟩ : ∃ v, fs.getD i z0 = v := ⟨_, rfl⟩
  rw [hv] at q0 q1 q2 q3 q4
  have hvm : v ∈ fs := by rw [← hv, List.getD_eq_getElem?_getD, List.getElem?_eq_getElem hli]; exact List.getElem_mem hli
  have ht : fs.take (i + 1) = fs.take i ++ [v] := by
    rw [List.take_add_one, List.getElem?_eq_getElem hli, ← hv, List.getD_eq_getElem?_getD, List.getElem?_eq_getElem hli]
    rfl
  have hvb := H4.out.2.2.2.1.1.2 v hvm
  have hvk := H4.out.2.2.2.2.1 v hvm
  have hvl34 := valT_len hvb
  obtain ⟨K, n, p, q, r⟩ := v
  dsimp only at q0 q1 q2 q3 q4 hvk
  have q0 := (hkw.cell (p := ⟨bV, _, none⟩) hbV (by simp)).trans q0
  have q1 := (hkw.cell (p := ⟨bV, _, none⟩) hbV (by simp)).trans q1
  have q2 := (hkw.cell (p := ⟨bV, _, none⟩) hbV (by simp)).trans q2
  have q3 := (hkw.cell (p := ⟨bV, _, none⟩) hbV (by simp)).trans q3
  have q4 := (hkw.cell (p := ⟨bV, _, none⟩) hbV (by simp)).trans q4
  have k7 : Keep [] wr (wr.alloc (.cells #[.int .i64 K, .int .i64 n, .int .u64 p, .int .u64 q, .int .i64 r] 36)) := Keep.alloc _ _
  obtain ⟨w7, hw7⟩ : ∃ w7, w7 = wr.alloc (.cells #[.int .i64 K, .int .i64 n, .int .u64 p, .int .u64 q, .int .i64 r] 36) := ⟨_, rfl⟩
  rw [← hw7] at k7
  have hVT := rvalueText_any K n p q r hvb hvk.1 hvk.2 w7 (HT.out.keep (hkw.trans k7))
  unfold VTPost at hVT
  have hzY : (bs (valT ⟨K, n, p, q, r⟩)).size ≤ 34 := by rw [bs_size]; exact hvl34
  obtain ⟨S3, hS3⟩ : ∃ S3, S2 ++ ({ data := #[32] } ++ bs (valT ⟨K, n, p, q, r⟩)) = S3 := ⟨_, rfl⟩
  have hS3b : S3 = bs (nodesT (List.take j g.nodes) ++ itoa K0 ++ toksT ((fs.take (i + 1)).map valT)) := by
    rw [← hS3, hS2, bs_cons, bs_append, ht, List.map_append, List.map_cons, List.map_nil, toksT_snoc, List.append_assoc]
  have HS3 := Lib.hid hS3b
  have HW7 := Lib.hid hw7
  have HK7 := Lib.hid (hK2.trans k7)
  clear hS2 hS3b hK2 hkw hvl hvm ht hvb hvk hw7 k7 hvl34 hv hcV
  generalize bs (valT ⟨K, n, p, q, r⟩) = Y2 at *
  have hz1 : ¬ 9223372036854775807 < 1 + Y2.size := by omega
  have hz2 : ¬ 9223372036854775807 < S2.size + (1 + Y2.size) := by omega
  have hz3 : ({ data := #[32] } ++ Y2 : ByteArray).size = 1 + Y2.size := by rw [ByteArray.size_append]; rfl
  have hz4 : ¬ 9223372036854775807 < S2.size + ({ data := #[32] } ++ Y2 : ByteArray).size := by omega
  go_wp2_with fail
  rw [← HW7.out]
  (with_reducible refine hVT.mono ?_)
  rintro e w8 ⟨rfl, k8⟩
  have HK8 := Lib.hid (HK7.out.trans k8)
  clear k8 hVT q0 q1 q2 q3 q4
  go_wp2
  try rw [hS3]
  go_roundw
  case rel =>
    exact ⟨S3, i + 1, by omega, rfl, by go_num, HS3.out, HK8.out⟩
  case measure => simp [RowKit.intOf]; omega
end Go.Proofs.YtigclopkoolocaaDoor
