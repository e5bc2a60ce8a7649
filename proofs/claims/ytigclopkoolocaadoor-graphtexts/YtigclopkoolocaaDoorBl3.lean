/-
  The program's Text of a graph: what it returns. Conditions: a graph in memory, of numbers of 64 bits, not longer than a text may be; what the library's tables hold.
-/
import Derived.Test.YtigclopkoolocaaDoorBl2
import Derived.Test.YtigclopkoolocaaDoorGd12
namespace Go.Proofs.YtigclopkoolocaaDoor
open Go.RowKit Go.Flo Go.Lib Go.Bit
set_option maxRecDepth 100000

theorem Bd.lt {w : World} {B b : Nat} {l : List UInt8} (h : Bd w B b l) : b < w.heap.size := by
  have hlt : ∀ {k : Nat} {o : Obj}, w.heap[k]? = some o → k < w.heap.size := fun {k o} e => by
    rcases Nat.lt_or_ge k w.heap.size with h' | h'
    · exact h'
    · simp [Array.getElem?_eq_none h'] at e
  rcases h with ⟨_, v, hb, _⟩ | ⟨_, v, hb, _⟩
  · exact hlt hb
  · exact hlt hb

theorem Bd.new (w : World) (B : Nat) (hB : B ≤ w.heap.size) : Bd (w.alloc (.cells #[.pointer none, .slice none 0 0] 51)) B w.heap.size [] :=
  Or.inl ⟨hB, .slice none 0 0, Blk.new w 51 #[.pointer none, .slice none 0 0], World.ownsRowF_nil _ _ _ _, by simp [Value.ownBlock]⟩

theorem valT_len {v : Val} (hb : VBd v) : (valT v).length ≤ 34 := by
  obtain ⟨⟨n0, n1⟩, _, _, r0, r1⟩ := hb
  unfold valT
  split
  · decide
  split
  · have := itoa_len v.n n0 n1; omega
  split
  · have h : (textB v.p.toNat v.q.toNat).data.toList.length = 33 := textB_size _ _
    rw [List.length_cons]; omega
  split
  · have := itoa_len v.r r0 r1; rw [List.length_cons]; omega
  · decide

theorem vals_len {l : List Val} (hb : ∀ v ∈ l, VBd v) : (toksT (l.map valT)).length ≤ 35 * l.length := by
  have h := toks_len (l := l.map valT) (k := 34) (fun t ht => by
    obtain ⟨v, hv, rfl⟩ := List.mem_map.1 ht
    exact valT_len (hb v hv))
  rwa [List.length_map] at h

theorem node_len {x : Nod} (hK : -9223372036854775808 ≤ x.K ∧ x.K ≤ 9223372036854775807) (hb : ∀ v ∈ x.fs, VBd v) (hl : x.fs.length ≤ 65536) : (nodeT x).length ≤ 2293782 := by
  have h1 := itoa_len x.K hK.1 hK.2
  have h2 := vals_len hb
  unfold nodeT
  rw [List.length_append, List.length_append, List.length_cons, List.length_nil]
  omega

theorem nodes_len {l : List Nod} (hb : ∀ x ∈ l, ((-9223372036854775808 ≤ x.K ∧ x.K ≤ 9223372036854775807) ∧ ∀ v ∈ x.fs, VBd v) ∧ x.fs.length ≤ 65536) : (nodesT l).length ≤ 2293782 * l.length := by
  induction l with
  | nil => simp [nodesT]
  | cons x l ih =>
    rw [nodesT_cons, List.length_append, List.length_cons, Nat.mul_add, Nat.mul_one]
    have h1 := hb x (by simp)
    have := node_len h1.1.1 h1.1.2 h1.2
    have := ih (fun y hy => hb y (by simp [hy]))
    omega

theorem slim_mem {g : Gr} (hs : Slim g) {x : Nod} (hx : x ∈ g.nodes) : x.fs.length ≤ 65536 := by
  obtain ⟨i, hi, rfl⟩ := List.getElem_of_mem hx
  have h := hs.2.2 i hi
  rwa [at_eq hi] at h

def GTPost (g : Gr) (w : World) (e : Ending) (w' : World) : Prop := e = .returned (.string (bs (grTE g))) ∧ Keep [] w w'

set_option maxHeartbeats 8000000 in
theorem gtext_any (w : World) (A0 A1 A2 : Option Addr) (c0 c1 c2 : Nat) (g : Gr) (h : GIn w A0 A1 A2 c0 c1 c2 g) (hs : Slim g) (hN : GrN g) (hT : Tabs w) :
    Calls Tryd.prog 11 #[.agg #[.slice A0 g.nodes.length c0, .slice A1 g.roots.length c1, .slice A2 g.weaks.length c2]] w (GTPost g w) := by
  unfold GTPost
  have ka : Keep [] w (w.alloc (.cells #[.slice A0 g.nodes.length c0, .slice A1 g.roots.length c1, .slice A2 g.weaks.length c2] 25)) := Keep.alloc _ _
  have hba := Blk.new w 25 #[.slice A0 g.nodes.length c0, .slice A1 g.roots.length c1, .slice A2 g.weaks.length c2]
  obtain ⟨w1, hw1⟩ : ∃ w1, w1 = w.alloc (.cells #[.slice A0 g.nodes.length c0, .slice A1 g.roots.length c1, .slice A2 g.weaks.length c2] 25) := ⟨_, rfl⟩
  rw [← hw1] at ka hba
  have hmay := mayg_any w1 A0 A1 A2 c0 c1 c2 g (h.keep ka)
  by_cases hM : MayG g
  case neg =>
    rw [decide_eq_false hM] at hmay
    rw [show grTE g = [] from if_neg hM]
    have HKA := Lib.hid ka
    have f0 := (hba.cell 0).trans (show _ = some (Value.slice A0 g.nodes.length c0) from rfl)
    have f1 := (hba.cell 1).trans (show _ = some (Value.slice A1 g.roots.length c1) from rfl)
    have f2 := (hba.cell 2).trans (show _ = some (Value.slice A2 g.weaks.length c2) from rfl)
    clear h hs hN hT hM ka hba
    generalize g.nodes.length = n0 at *
    generalize g.roots.length = n1 at *
    generalize g.weaks.length = n2 at *
    go_enter Tryd.func11, Tryd.ntmps11
    go_wp2_with fail
    rw [← hw1]
    clear hw1
    (with_reducible refine hmay.mono ?_)
    rintro e w2 ⟨rfl, k2⟩
    have HK2 := Lib.hid (HKA.out.trans k2)
    clear k2 hmay f0 f1 f2
    go_wp2
    go_ret
    exact ⟨rfl, HK2.out⟩
  rw [decide_eq_true hM] at hmay
  rw [show grTE g = grT g from if_pos hM]
  obtain ⟨Z, hZ⟩ : ∃ Z, bs (grT g) = Z := ⟨_, rfl⟩
  rw [hZ]
  have HZ := Lib.hid hZ
  clear hZ
  have hnc := h.nodes.nc
  have hncm := h.nodes.cap
  obtain ⟨n0, hn0⟩ : ∃ n, g.nodes.length = n := ⟨_, rfl⟩
  obtain ⟨n1, hn1⟩ : ∃ n, g.roots.length = n := ⟨_, rfl⟩
  obtain ⟨n2, hn2⟩ : ∃ n, g.weaks.length = n := ⟨_, rfl⟩
  have hn96 : n0 ≤ 4096 := by rw [← hn0]; exact hM.1
  have hNB : ∀ x ∈ g.nodes, ((-9223372036854775808 ≤ x.K ∧ x.K ≤ 9223372036854775807) ∧ ∀ v ∈ x.fs, VBd v) ∧ x.fs.length ≤ 65536 := fun x hx => ⟨hN x hx, slim_mem hs hx⟩
  have hMV : ∀ x ∈ g.nodes, ∀ v ∈ x.fs, 0 ≤ v.K ∧ v.K ≤ 3 := fun x hx v hv => ⟨(hM.2.2.2 x hx v hv).1, (hM.2.2.2 x hx v hv).2.1⟩
  have HW1 := Lib.hid (fun (w3 : World) (b : Nat) (pre : List UInt8) (hb : Below w.heap.size w w3) (hp : pre.length ≤ 70368744177664) (hB : Bd w3 w.heap.size b pre) => writeRoots_any w w3 A1 c1 g.roots h.roots (fun r hr => mayI_bd hM.1 (hM.2.1 r hr)) hs.1 hT hb b pre { data := #[114, 111, 111, 116, 115] } (by decide) hp hB)
  have HW2 := Lib.hid (fun (w3 : World) (b : Nat) (pre : List UInt8) (hb : Below w.heap.size w w3) (hp : pre.length ≤ 70368744177664) (hB : Bd w3 w.heap.size b pre) => writeRoots_any w w3 A2 c2 g.weaks h.weaks (fun r hr => mayI_bd hM.1 (hM.2.2.1 r hr)) hs.2.1 hT hb b pre { data := #[119, 101, 97, 107, 115] } (by decide) hp hB)
  have hrl : (toksT (g.roots.map itoa)).length ≤ 22 * 65536 := by have := ints_len (l := g.roots) (fun r hr => mayI_bd hM.1 (hM.2.1 r hr)); have := hs.1; omega
  have HG := Lib.hid (And.intro h (And.intro hn0 (And.intro hNB (And.intro hMV (And.intro hT hrl)))))
  unfold WRPost at HW1 HW2
  rw [hn1] at HW1
  rw [hn2] at HW2
  rw [hn0, hn1, hn2] at hmay hba hw1
  rw [hn0] at hnc
  rw [hn0, hn1, hn2]
  have hbsz : w1.heap.size = w.heap.size + 1 := by rw [hw1]; simp
  have HKA := Lib.hid (And.intro ka (And.intro hba hbsz))
  have f0 := (hba.cell 0).trans (show _ = some (Value.slice A0 n0 c0) from rfl)
  have f1 := (hba.cell 1).trans (show _ = some (Value.slice A1 n1 c1) from rfl)
  have f2 := (hba.cell 2).trans (show _ = some (Value.slice A2 n2 c2) from rfl)
  clear h hs hN hT hM ka hba hn0 hn1 hn2 hNB hMV hrl hbsz
  go_enter Tryd.func11, Tryd.ntmps11
  go_wp2_with fail
  rw [← hw1]
  clear hw1
  (with_reducible refine hmay.mono ?_)
  rintro e w2 ⟨rfl, k2⟩
  have hb2 := HKA.out.2.1.keep k2 (by simp)
  have hB3 := Bd.new w2 w.heap.size (by have := HKA.out.1.size; have := k2.size; omega)
  have k3 : Keep [] w2 (w2.alloc (.cells #[.pointer none, .slice none 0 0] 51)) := Keep.alloc _ _
  obtain ⟨w3, hw3⟩ : ∃ w3, w3 = w2.alloc (.cells #[.pointer none, .slice none 0 0] 51) := ⟨_, rfl⟩
  rw [← hw3] at k3 hB3
  obtain ⟨b, hb⟩ : ∃ b, w2.heap.size = b := ⟨_, rfl⟩
  have hbq : w.heap.size ≠ b := by have := HKA.out.2.2; have := k2.size; omega
  rw [hb] at hB3
  have hb3 := hb2.keep k3 (by simp)
  have k03 := (HKA.out.1.trans k2).trans k3
  have f0 := (hb3.cell 0).trans (show _ = some (Value.slice A0 n0 c0) from rfl)
  have H3 := Lib.hid (And.intro hB3 (And.intro k03 (And.intro hb3 hbq)))
  have HW3 := Lib.hid hw3
  have HBE := Lib.hid hb
  clear hmay k2 k3 hb2 hB3 hb3 k03 f1 f2 hw3 hbq hb
  go_upto_region 4 with fail
  rw [← HW3.out]
  rw [HBE.out]
  go_wp2
  go_loopw [14] (fun x wr => ∃ j : Nat, j ≤ n0 ∧ x = .int .i64 j ∧ Bd wr w.heap.size b (nodesT (g.nodes.take j)) ∧ Below w.heap.size w wr ∧ Oth b w3 wr) (fun x _ => n0 - (RowKit.intOf x).toNat)
  case atStart => exact ⟨0, by omega, rfl, H3.out.1, H3.out.2.1.below (Nat.le_refl _) (by simp), Lib.OthersKept.refl _ _ _⟩
  case round =>
  obtain ⟨j, hj, rfl, hBj, hbj, hoj⟩ := hrel
  have hwr : w.heap.size ≤ wr.heap.size := hbj.size
  have hpl : ∀ k, k ≤ n0 → (nodesT (g.nodes.take k)).length ≤ 2293782 * k := fun k hk => by
    have h := nodes_len (l := g.nodes.take k) (fun x hx => HG.out.2.2.1 x (List.mem_of_mem_take hx))
    rwa [List.length_take, HG.out.2.1, Nat.min_eq_left hk] at h
  by_cases hlt : j < n0
  case neg =>
    obtain rfl : j = n0 := by omega
    have hlen := hpl j hj
    rw [show g.nodes.take j = g.nodes from List.take_of_length_le (by rw [HG.out.2.1]; exact Nat.le_refl _)] at hBj hlen
    have hbx := oth_blk hoj H3.out.2.2.1 H3.out.2.2.2 (by decide)
    have f1 := (hbx.cell 1).trans (show _ = some (Value.slice A1 n1 c1) from rfl)
    have hw := HW1.out wr b _ hbj (by omega) hBj
    have HJ := Lib.hid (And.intro hbj (And.intro hbx hlen))
    clear f0 hBj hbj hoj hbx hpl hlen
    go_wp2_with fail
    (with_reducible refine hw.mono ?_)
    rintro e w4 ⟨rfl, hB4, hb4, ho4⟩
    have hbx := oth_blk ho4 HJ.out.2.1 H3.out.2.2.2 (by decide)
    have f2 := (hbx.cell 2).trans (show _ = some (Value.slice A2 n2 c2) from rfl)
    have hbw4 := HJ.out.1.trans hb4
    have hw2 := HW2.out w4 b _ hbw4 (by
      have h1 := HJ.out.2.2
      have h2 := HG.out.2.2.2.2.2
      rw [List.length_append, List.length_append, List.length_append]
      show _ + (5 + (_ + 1)) ≤ _
      omega) hB4
    have HJ4 := Lib.hid hbw4
    clear hw f1 hB4 hb4 ho4 hbx hbw4
    go_wp2_with fail
    (with_reducible refine hw2.mono ?_)
    rintro e w5 ⟨rfl, hB5, hb5, ho5⟩
    have hbw5 := HJ4.out.trans hb5
    have hst := string_any w.heap.size b _ w5 hB5 hbw5.size
    have HJ5 := Lib.hid hbw5
    have hend : nodesT g.nodes ++ ((({ data := #[114, 111, 111, 116, 115] } : ByteArray).data.toList) ++ (toksT (g.roots.map itoa) ++ [10])) ++ ((({ data := #[119, 101, 97, 107, 115] } : ByteArray).data.toList) ++ (toksT (g.weaks.map itoa) ++ [10])) = grT g := by
      unfold grT
      simp
    rw [hend, HZ.out] at hst
    clear hw2 f2 hB5 hb5 ho5 hbw5 hend
    go_wp2_with fail
    (with_reducible refine hst.mono ?_)
    rintro e w6 ⟨rfl, _, hb6, _⟩
    have HJ6 := Lib.hid (keep_of (HJ5.out.trans hb6))
    clear hst hb6
    go_wp2
    go_ret
    exact ⟨rfl, HJ6.out⟩
  have hlj : j < g.nodes.length := by rw [HG.out.2.1]; exact hlt
  obtain ⟨bN, oN, rfl, hbN, hcN⟩ := HG.out.1.nodes.cells (by omega)
  obtain ⟨AF, cF, d0, d1, hvF⟩ := hcN j hlj
  have hkw : Keep [] w wr := keep_of hbj
  obtain ⟨nd, hnd⟩ : ∃ nd, g.nodes.getD j nod0 = nd := ⟨_, rfl⟩
  rw [hnd] at d0 d1 hvF
  have hmem : nd ∈ g.nodes := by rw [← hnd, List.getD_eq_getElem?_getD, List.getElem?_eq_getElem hlj]; exact List.getElem_mem hlj
  have ht : g.nodes.take (j + 1) = g.nodes.take j ++ [nd] := by
    rw [List.take_add_one, List.getElem?_eq_getElem hlj, ← hnd, List.getD_eq_getElem?_getD, List.getElem?_eq_getElem hlj]
    rfl
  obtain ⟨K0, fs⟩ := nd
  dsimp only at d0 d1 hvF
  have hbd := HG.out.2.2.1 _ hmem
  have hkd := HG.out.2.2.2.1 _ hmem
  dsimp only at hbd hkd
  have d0 := (hkw.cell (p := ⟨bN, _, none⟩) hbN (by simp)).trans d0
  have d1 := (hkw.cell (p := ⟨bN, _, none⟩) hbN (by simp)).trans d1
  have hfc := hvF.nc
  have hfm := hvF.cap
  obtain ⟨m, hm⟩ : ∃ m, fs.length = m := ⟨_, rfl⟩
  rw [hm] at d1 hfc
  have hm65 : m ≤ 65536 := by rw [← hm]; exact hbd.2
  have k4 : Keep [] wr (wr.alloc (.cells #[.int .i64 K0, .slice AF m cF] 33)) := Keep.alloc _ _
  have hb4 := Blk.new wr 33 #[.int .i64 K0, .slice AF m cF]
  obtain ⟨w4, hw4⟩ : ∃ w4, w4 = wr.alloc (.cells #[.int .i64 K0, .slice AF m cF] 33) := ⟨_, rfl⟩
  rw [← hw4] at k4 hb4
  have e0 := (hb4.cell 0).trans (show _ = some (Value.int .i64 K0) from rfl)
  have hIt := itoa_any K0 hbd.1.1.1 hbd.1.1.2 w4 (HG.out.2.2.2.2.1.keep (hkw.trans k4))
  have hpj := hpl j hj
  have hKl := itoa_len K0 hbd.1.1.1 hbd.1.1.2
  have hbj4 := below_keep hbj (Nat.le_refl _) k4
  have hoj4 := oth_keep hoj k4
  have hqb : wr.heap.size ≠ b := by have := hBj.lt; omega
  have H4 := Lib.hid (And.intro (hBj.keep k4) (And.intro hbj4 (And.intro hoj4 (And.intro hb4 (And.intro hqb (And.intro hvF (And.intro hbd (And.intro hkd (And.intro ht (And.intro hm (And.intro hpj hKl)))))))))))
  have HW4 := Lib.hid hw4
  have hws : (bs (itoa K0)).data.toList = itoa K0 := by simp [bs]
  have hWn := fun W (hk : Keep [] w4 W) => write_m w.heap.size b _ (bs (itoa K0)) W (H4.out.1.keep hk) (by have h1 : (bs (itoa K0)).size ≤ 21 := hKl; have := H4.out.2.2.2.2.2.2.2.2.2.2.1; omega) (Nat.le_trans (Nat.le_trans hwr k4.size) hk.size)
  rw [hws] at hWn
  have HWN := Lib.hid hWn
  clear hBj hbj hoj hpl hkw hcN hvF hbd hkd ht hmem k4 hb4 hw4 hpj hKl hbj4 hoj4 hqb hm hnd hws hWn
  go_wp2_with fail
  rw [← HW4.out]
  (with_reducible refine hIt.mono ?_)
  rintro e w5 ⟨rfl, k5⟩
  have hw5 := HWN.out w5 k5
  have HK5 := Lib.hid k5
  clear k5 hIt e0 d0 d1 f0
  go_wp2_with fail
  (with_reducible refine hw5.mono ?_)
  rintro e w6 ⟨rfl, hB6, hb6, ho6⟩
  have hbox := oth_blk ho6 (H4.out.2.2.2.1.keep HK5.out (by simp)) H4.out.2.2.2.2.1 (by decide)
  have e1 := (hbox.cell 1).trans (show _ = some (Value.slice AF m cF) from rfl)
  have hb6' := (below_keep H4.out.2.1 (Nat.le_refl _) HK5.out).trans hb6
  have ho6' := (oth_keep H4.out.2.2.1 HK5.out).trans ho6
  have H6 := Lib.hid (And.intro hB6 (And.intro hb6' ho6'))
  clear hw5 hB6 hb6 ho6 hb6' ho6' hbox
  obtain ⟨P1, hP1⟩ : ∃ P1, nodesT (List.take j g.nodes) ++ itoa K0 = P1 := ⟨_, rfl⟩
  have hP1l : P1.length ≤ 70368744177663 := by
    rw [← hP1, List.length_append]
    have h1 := H4.out.2.2.2.2.2.2.2.2.2.2.1
    have h2 := H4.out.2.2.2.2.2.2.2.2.2.2.2
    omega
  rw [hP1] at H6
  have HP1 := Lib.hid (And.intro hP1 hP1l)
  clear hP1 hP1l
  generalize wr = wo at *
  go_wp2
  go_loopw [25] (fun x wr => ∃ i : Nat, i ≤ m ∧ x = .int .i64 i ∧ Bd wr w.heap.size b (P1 ++ toksT ((fs.take i).map valT)) ∧ Below w.heap.size w wr ∧ Oth b w3 wr) (fun x _ => m - (RowKit.intOf x).toNat)
  case atStart => exact ⟨0, by omega, rfl, by simpa [toksT] using H6.out.1, H6.out.2.1, H6.out.2.2⟩
  case round =>
  obtain ⟨i, hi, rfl, hBi, hbi, hoi⟩ := hrel
  have hwi : w.heap.size ≤ wr.heap.size := hbi.size
  have hvl : ∀ k, k ≤ m → (toksT ((fs.take k).map valT)).length ≤ 35 * k := fun k hk => by
    have h := vals_len (l := fs.take k) (fun v hv => H4.out.2.2.2.2.2.2.1.1.2 v (List.mem_of_mem_take hv))
    rwa [List.length_take, H4.out.2.2.2.2.2.2.2.2.2.1, Nat.min_eq_left hk] at h
  have hP1l := HP1.out.2
  by_cases hlt2 : i < m
  case neg =>
    obtain rfl : i = m := by omega
    have hlen := hvl i hi
    rw [show fs.take i = fs from List.take_of_length_le (by rw [H4.out.2.2.2.2.2.2.2.2.2.1]; exact Nat.le_refl _)] at hBi hlen
    have hW := write_m w.heap.size b _ { data := #[10] } wr hBi (by rw [List.length_append]; show _ + 1 ≤ _; omega) hwi
    have hcat : P1 ++ toksT (fs.map valT) ++ ({ data := #[10] } : ByteArray).data.toList = nodesT (g.nodes.take (j + 1)) := by
      rw [H4.out.2.2.2.2.2.2.2.2.1, nodesT_snoc, ← HP1.out.1]
      unfold nodeT
      show _ ++ _ ++ _ ++ [10] = _
      simp
    rw [hcat] at hW
    have HB := Lib.hid (And.intro hbi hoi)
    clear hBi hbi hoi hlen hcat hvl e1
    go_wp2_with fail
    (with_reducible refine hW.mono ?_)
    rintro e w8 ⟨rfl, hB8, hb8, ho8⟩
    have HF := Lib.hid (And.intro hB8 (And.intro hb8 ho8))
    clear hW hB8 hb8 ho8
    go_wp2
    go_roundw
    case rel => exact ⟨j + 1, by omega, by go_num, HF.out.1, HB.out.1.trans HF.out.2.1, HB.out.2.trans HF.out.2.2⟩
    case measure => simp [RowKit.intOf]; omega
  have hli : i < fs.length := by rw [H4.out.2.2.2.2.2.2.2.2.2.1]; exact hlt2
  obtain ⟨bV, oV, rfl, hbV, hcV⟩ := H4.out.2.2.2.2.2.1.cells (by omega)
  have hkw : Keep [] w wr := keep_of hbi
  obtain ⟨q0, q1, q2, q3, q4⟩ := hcV i hli
  obtain ⟨v, hv⟩ : ∃ v, fs.getD i z0 = v := ⟨_, rfl⟩
  rw [hv] at q0 q1 q2 q3 q4
  have hvm : v ∈ fs := by rw [← hv, List.getD_eq_getElem?_getD, List.getElem?_eq_getElem hli]; exact List.getElem_mem hli
  have ht : fs.take (i + 1) = fs.take i ++ [v] := by
    rw [List.take_add_one, List.getElem?_eq_getElem hli, ← hv, List.getD_eq_getElem?_getD, List.getElem?_eq_getElem hli]
    rfl
  have hvb := H4.out.2.2.2.2.2.2.1.1.2 v hvm
  have hvk := H4.out.2.2.2.2.2.2.2.1 v hvm
  have hvl34 := valT_len hvb
  obtain ⟨K, n, p, q, r⟩ := v
  dsimp only at q0 q1 q2 q3 q4 hvk
  have q0 := (hkw.cell (p := ⟨bV, _, none⟩) hbV (by simp)).trans q0
  have q1 := (hkw.cell (p := ⟨bV, _, none⟩) hbV (by simp)).trans q1
  have q2 := (hkw.cell (p := ⟨bV, _, none⟩) hbV (by simp)).trans q2
  have q3 := (hkw.cell (p := ⟨bV, _, none⟩) hbV (by simp)).trans q3
  have q4 := (hkw.cell (p := ⟨bV, _, none⟩) hbV (by simp)).trans q4
  have k7 : Keep [] wr (wr.alloc (.cells #[.int .i64 K, .int .i64 n, .int .u64 p, .int .u64 q, .int .i64 r] 36)) := Keep.alloc _ _
  obtain ⟨w7, hw7⟩ : ∃ w7, w7 = wr.alloc (.cells #[.int .i64 K, .int .i64 n, .int .u64 p, .int .u64 q, .int .i64 r] 36) := ⟨_, rfl⟩
  rw [← hw7] at k7
  have hVT := valueText_any K n p q r hvb hvk.1 hvk.2 w7 (HG.out.2.2.2.2.1.keep (hkw.trans k7))
  unfold VTPost at hVT
  have hzY : (bs (valT ⟨K, n, p, q, r⟩)).size ≤ 34 := hvl34
  have hYd : ({ data := #[32] } ++ bs (valT ⟨K, n, p, q, r⟩) : ByteArray).data.toList = 32 :: valT ⟨K, n, p, q, r⟩ := by rw [bs_cons]; simp [bs]
  have hcat : P1 ++ toksT ((fs.take (i + 1)).map valT) = P1 ++ toksT ((fs.take i).map valT) ++ (32 :: valT ⟨K, n, p, q, r⟩) := by
    rw [ht, List.map_append, List.map_cons, List.map_nil, toksT_snoc, List.append_assoc]
  have hlen := hvl i hi
  have hWn := fun W (hk : Keep [] wr W) => write_m w.heap.size b _ ({ data := #[32] } ++ bs (valT ⟨K, n, p, q, r⟩)) W (hBi.keep hk) (by rw [ByteArray.size_append, List.length_append]; show _ + (1 + _) ≤ _; omega) (Nat.le_trans hwi hk.size)
  rw [hYd, ← hcat] at hWn
  have HW := Lib.hid hWn
  have HJ := Lib.hid (And.intro hbi hoi)
  have HW7 := Lib.hid hw7
  have HK7 := Lib.hid k7
  have hz1 : ¬ 9223372036854775807 < 1 + (bs (valT ⟨K, n, p, q, r⟩)).size := by omega
  clear hBi hbi hoi hkw hcat hYd hvl hvm hlen ht hWn hvb hvk hw7 k7 hvl34 hv hcV
  generalize bs (valT ⟨K, n, p, q, r⟩) = Y at *
  go_wp2_with fail
  rw [← HW7.out]
  (with_reducible refine hVT.mono ?_)
  rintro e w8 ⟨rfl, k8⟩
  have hw8 := HW.out w8 (HK7.out.trans k8)
  have HK8 := Lib.hid (HK7.out.trans k8)
  clear k8 hVT q0 q1 q2 q3 q4
  go_wp2_with fail
  (with_reducible refine hw8.mono ?_)
  rintro e w9 ⟨rfl, hB9, hb9, ho9⟩
  have HF := Lib.hid (And.intro hB9 (And.intro hb9 ho9))
  clear hw8 hB9 hb9 ho9
  go_wp2
  go_roundw
  case rel => exact ⟨i + 1, by omega, by go_num, HF.out.1, (below_keep HJ.out.1 (Nat.le_refl _) HK8.out).trans HF.out.2.1, (oth_keep HJ.out.2 HK8.out).trans HF.out.2.2⟩
  case measure => simp [RowKit.intOf]; omega
end Go.Proofs.YtigclopkoolocaaDoor
