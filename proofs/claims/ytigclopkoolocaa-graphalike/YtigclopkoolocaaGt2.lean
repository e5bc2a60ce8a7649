/-
  scullionlaw12.turned: a graph whose nodes stand in another order. No conditions but what is in memory.
-/
import Derived.Test.YtigclopkoolocaaGt1
import Derived.Deep.RegionLaw
import Derived.Deep.AppendLies
namespace Go.Flo
open Go.RowKit Go.Bit Go.Proofs.Ytigclopkoolocaa

/-- A value, its node numbered otherwise. -/
def tF (n t : Nat) (v : Val) : Val := plainV (mapV (turnN n t) v)
theorem turn_fwd {n t i : Nat} (ht : t < n) (hi : i < n) : turnN n t ((i + (n - t)) % n) = i := by
  unfold turnN
  rcases Nat.lt_or_ge (i + (n - t)) n with h1 | h1
  · rw [Nat.mod_eq_of_lt h1, show i + (n - t) + t = i + n by omega, Nat.add_mod_right, Nat.mod_eq_of_lt hi]
  · rw [Nat.mod_eq_sub_mod h1, Nat.mod_eq_of_lt (show i + (n - t) - n < n by omega), show i + (n - t) - n + t = i by omega, Nat.mod_eq_of_lt hi]

theorem mapI_nat (s : Nat → Nat) (k : Nat) : mapI s (k : Int) = (s k : Nat) := by unfold mapI; rw [if_neg (by omega), Int.toNat_natCast]

/-- Nodes of which some stand already, each one's fields in a row of its own. -/
def NodAt (w : World) (tn tv : TypeId) (gN n B : Nat) (F : Nat → Bool) (L : Nat → Nod) : Prop :=
  ∃ vs : Nat → Value, Row w tn gN (n * 2) (n * 2) (ndC (fun i => if F i = true then (L i).K else 0) (fun i => if F i = true then vs i else .slice none 0 0)) ∧
    ∀ i, i < n → F i = true → w.ownsRow B tv 5 (vs i) (L i).fs.length (rowV (L i).fs)
theorem NodAt.keepO {w w' : World} {tn tv : TypeId} {gN n B : Nat} {F : Nat → Bool} {L : Nat → Nod} {own : List Nat} (h : NodAt w tn tv gN n B F L) (hk : Keep own w w') (ho : ∀ x ∈ own, x ≠ gN ∧ (x < B ∨ w.heap.size ≤ x)) : NodAt w' tn tv gN n B F L := by
  obtain ⟨vs, h1, h2⟩ := h
  refine ⟨vs, h1.keep hk (fun hm => (ho gN hm).1 rfl), fun i hi hf => owns_keepO (h2 i hi hf) hk (fun g hg hm => ?_)⟩
  have := (h2 i hi hf).lt g hg
  have := (ho g hm).2
  omega
theorem NodAt.set {w : World} {tn tv : TypeId} {gN n B p : Nat} {F F' : Nat → Bool} {L : Nat → Nod} {vf : Value} (h : NodAt w tn tv gN n B F L) (hp : p < n) (hB : gN < B) (hF : ∀ i, i < n → F' i = (F i || decide (i = p))) (hv : w.ownsRow B tv 5 vf (L p).fs.length (rowV (L p).fs)) :
    NodAt ((w.setCell ⟨gN, p * 2, none⟩ (.int .i64 (L p).K)).setCell ⟨gN, p * 2 + 1, none⟩ vf) tn tv gN n B F' L := by
  obtain ⟨vs, h1, h2⟩ := h
  refine ⟨fun i => if i = p then vf else vs i, ((h1.set_ (p * 2) _).set_ (p * 2 + 1) _).congr (fun i hi => ?_), fun i hi hf => ?_⟩
  · by_cases e1 : i = p * 2 + 1
    · subst e1
      rw [if_pos rfl, ndC_1, if_pos (by rw [hF p hp]; simp)]
      dsimp only
      rw [if_pos rfl]
    rw [if_neg e1]
    by_cases e0 : i = p * 2
    · subst e0
      rw [if_pos rfl, ndC_0, if_pos (by rw [hF p hp]; simp)]
    rw [if_neg e0]
    have hne : i / 2 ≠ p := by omega
    have hff : F' (i / 2) = F (i / 2) := by rw [hF (i / 2) (by omega)]; simp [hne]
    unfold ndC
    dsimp only
    rw [hff, if_neg hne]
  · dsimp only
    by_cases e : i = p
    · subst e
      rw [if_pos rfl]
      exact ownsRow_setCell_below (ownsRow_setCell_below hv (a := ⟨gN, i * 2, none⟩) hB _) (a := ⟨gN, i * 2 + 1, none⟩) hB _
    · rw [if_neg e]
      have hf2 : F i = true := by rw [hF i hi] at hf; simpa [e] using hf
      exact ownsRow_setCell_below (ownsRow_setCell_below (h2 i hi hf2) (a := ⟨gN, p * 2, none⟩) hB _) (a := ⟨gN, p * 2 + 1, none⟩) hB _
theorem NodAt.done {w : World} {tn tv : TypeId} {gN n B : Nat} {F : Nat → Bool} {L : List Nod} (hL : L.length = n) (h : NodAt w tn tv gN n B F (fun i => L.getD i nod0)) (hF : ∀ i, i < n → F i = true) : NodL w (some ⟨gN, 0, none⟩) n L := by
  obtain ⟨vs, h1, h2⟩ := h
  have hm := h1.cap_max
  unfold maxLen at hm
  refine ⟨by omega, by omega, fun _ => ⟨gN, 0, rfl, h1.lt, fun i hi => ?_⟩⟩
  rw [hL] at hi
  obtain ⟨A', c', e, hv⟩ := owns_vals (h2 i hi (hF i hi))
  refine ⟨A', c', ?_, ?_, hv⟩
  · rw [Nat.zero_add, h1.cell (by omega), ndC_0, if_pos (hF i hi)]
  · rw [Nat.zero_add, h1.cell (by omega), ndC_1, if_pos (hF i hi), e]
end Go.Flo
namespace Go.Proofs.Ytigclopkoolocaa
open Go.RowKit Go.Flo Go.Bit
set_option maxRecDepth 100000

theorem hmf_turn (a b : Value) (W : World) : (Instr.makeFunc (Fn.func 30) #[] #[a, b]).run Try.prog W = .ok (.func (.func 30) #[] #[a, b]) W := by kernel_rfl

set_option maxHeartbeats 20000000 in
theorem turned_any (w : World) (A0 A1 A2 : Option Addr) (c0 c1 c2 : Nat) (g : Gr) (t n : Nat) (hgn : g.n = n) (htn : t < n) (h : GIn w A0 A1 A2 c0 c1 c2 g) (hM : MayG g) (hsl : Slim g) :
    Calls Try.prog 19 #[.agg #[.slice A0 g.nodes.length c0, .slice A1 g.roots.length c1, .slice A2 g.weaks.length c2], .int .i64 (t : Nat)] w (GrPost (turnG g t) w) := by
  have hnn : g.nodes.length = n := hgn
  obtain ⟨n1, hn1⟩ : ∃ n1, g.roots.length = n1 := ⟨_, rfl⟩
  obtain ⟨n2, hn2⟩ : ∃ n2, g.weaks.length = n2 := ⟨_, rfl⟩
  have HG := Lib.hid (And.intro h hM)
  have HSL := Lib.hid hsl
  have HN := Lib.hid (And.intro hgn (And.intro hn1 (And.intro hn2 hnn)))
  have h4 := hM.1
  have hn6 : n ≤ 65536 := by omega
  have hnc := h.nodes.nc
  have hncm := h.nodes.cap
  rw [hnn] at hnc
  rw [hnn, hn1, hn2]
  clear h hM hsl hn1 hn2 hnn
  have k1 : Keep [] w (w.alloc (.cells #[.slice A0 n c0, .slice A1 n1 c1, .slice A2 n2 c2] 25)) := Keep.alloc _ _
  have b1 := Blk.new w 25 #[.slice A0 n c0, .slice A1 n1 c1, .slice A2 n2 c2]
  obtain ⟨w1, hw1⟩ : ∃ w1, w1 = w.alloc (.cells #[.slice A0 n c0, .slice A1 n1 c1, .slice A2 n2 c2] 25) := ⟨_, rfl⟩
  have hz1 : w1.heap.size = w.heap.size + 1 := by rw [hw1]; simp
  rw [← hw1] at k1 b1
  have k2 : Keep [] w1 (w1.alloc (.cells #[.int .i64 (t : Nat)] 3)) := Keep.alloc _ _
  have b2 := Blk.new w1 3 #[.int .i64 (t : Nat)]
  obtain ⟨w2, hw2⟩ : ∃ w2, w2 = w1.alloc (.cells #[.int .i64 (t : Nat)] 3) := ⟨_, rfl⟩
  have hz2 : w2.heap.size = w.heap.size + 2 := by rw [hw2]; simp [hz1]
  rw [← hw2] at k2 b2
  rw [hz1] at b2
  have k3 : Keep [] w2 (w2.alloc (.cells #[.slice none 0 0, .slice none 0 0, .slice none 0 0] 25)) := Keep.alloc _ _
  have b3 := Blk.new w2 25 #[.slice none 0 0, .slice none 0 0, .slice none 0 0]
  obtain ⟨w3, hw3⟩ : ∃ w3, w3 = w2.alloc (.cells #[.slice none 0 0, .slice none 0 0, .slice none 0 0] 25) := ⟨_, rfl⟩
  have hz3 : w3.heap.size = w.heap.size + 3 := by rw [hw3]; simp [hz2]
  rw [← hw3] at k3 b3
  rw [hz2] at b3
  have k4 : Keep [] w3 (w3.alloc (.cells #[.int .i64 (n : Nat)] 3)) := Keep.alloc _ _
  have b4 := Blk.new w3 3 #[.int .i64 (n : Nat)]
  obtain ⟨w4, hw4⟩ : ∃ w4, w4 = w3.alloc (.cells #[.int .i64 (n : Nat)] 3) := ⟨_, rfl⟩
  have hz4 : w4.heap.size = w.heap.size + 4 := by rw [hw4]; simp [hz3]
  rw [← hw4] at k4 b4
  rw [hz3] at b4
  have hmk := mk_nods n hn6 w4
  have k5 : Keep [] w4 (w4.alloc (.cells (madeCells nz12 (n * 2)) 35)) := Keep.alloc _ _
  have b5 := nrow12 (n := n) hn6 (Blk.new w4 35 (madeCells nz12 (n * 2)))
  obtain ⟨w5, hw5⟩ : ∃ w5, w5 = w4.alloc (.cells (madeCells nz12 (n * 2)) 35) := ⟨_, rfl⟩
  have hz5 : w5.heap.size = w.heap.size + 5 := by rw [hw5]; simp [hz4]
  rw [← hw5] at k5 b5 hmk
  rw [hz4] at b5 hmk
  have k6 : Keep [] w5 (w5.alloc (.cells #[.slice (some ⟨w.heap.size + 4, 0, none⟩) n n, .slice none 0 0, .slice none 0 0] 25)) := Keep.alloc _ _
  have b6 := Blk.new w5 25 #[.slice (some ⟨w.heap.size + 4, 0, none⟩) n n, .slice none 0 0, .slice none 0 0]
  obtain ⟨w6, hw6⟩ : ∃ w6, w6 = w5.alloc (.cells #[.slice (some ⟨w.heap.size + 4, 0, none⟩) n n, .slice none 0 0, .slice none 0 0] 25) := ⟨_, rfl⟩
  have hz6 : w6.heap.size = w.heap.size + 6 := by rw [hw6]; simp [hz5]
  rw [← hw6] at k6 b6
  rw [hz5] at b6
  have b1' := ((b1.keep k2 (by simp)).keep k3 (by simp)).keep k4 (by simp)
  have y0 := ((b1.keep k2 (by simp)).keep k3 (by simp)).cell 0
  have y1 := (b1'.cell 0).trans (show _ = some (Value.slice A0 n c0) from rfl)
  have y4 := (b4.cell 0).trans (show _ = some (Value.int .i64 (n : Nat)) from rfl)
  have bb1 := (b1'.keep k5 (by simp)).keep k6 (by simp)
  have bb2 := (((b2.keep k3 (by simp)).keep k4 (by simp)).keep k5 (by simp)).keep k6 (by simp)
  have bb3 := ((b3.keep k4 (by simp)).keep k5 (by simp)).keep k6 (by simp)
  have bb4 := (b4.keep k5 (by simp)).keep k6 (by simp)
  have bb5 := b5.keep k6 (by simp)
  have HW := Lib.hid (And.intro bb1 (And.intro bb3 (And.intro bb5 (And.intro b6 (((((k1.trans k2).trans k3).trans k4).trans k5).trans k6)))))
  have HZ := Lib.hid hz6
  have HP3 := Lib.hid hz3
  have HP5 := Lib.hid hz5
  have HE3 := Lib.hid (show w3 = ((w.alloc (.cells #[.slice A0 n c0, .slice A1 n1 c1, .slice A2 n2 c2] 25)).alloc (.cells #[.int .i64 (t : Nat)] 3)).alloc (.cells #[.slice none 0 0, .slice none 0 0, .slice none 0 0] 25) by rw [hw3, hw2, hw1])
  have HE4 := Lib.hid hw4
  have HE6 := Lib.hid hw6
  have x0 := y0.trans (show _ = some (Value.slice A0 n c0) from rfl)
  clear y0
  obtain ⟨H, hH⟩ : ∃ H, w.heap.size = H := ⟨_, rfl⟩
  rw [hH] at bb2 bb4
  have CL := Lib.hid (fun W (hk : Keep [H + 4, H + 5] w6 W) => And.intro (((bb2.keep hk (by simp)).cell 0).trans (show _ = some (Value.int .i64 (t : Nat)) from rfl)) (((bb4.keep hk (by simp)).cell 0).trans (show _ = some (Value.int .i64 (n : Nat)) from rfl)))
  clear k1 k2 k3 k4 k5 k6 b1 b2 b3 b4 b5 b6 b1' bb1 bb2 bb3 bb4 bb5 hw1 hw2 hw3 hw4 hw5 hw6 hz1 hz2 hz3 hz4 hz5 hz6
  rw [hH] at HW HZ hmk HE6 x0 y1 y4 HP3 HP5
  have HH := Lib.hid hH
  go_enter Try.func19, Try.ntmps19
  go_upto_region 1 with fail
  rw [← HE3.out]
  have hmf := fun W => hmf_turn (.pointer (some ⟨H + 1, 0, none⟩)) (.pointer (some ⟨H + 3, 0, none⟩)) W
  go_upto_region 2 with fail
  rw [← HE4.out, HP3.out]
  clear x0
  have g6 := (HW.out.1.cell 0).trans (show _ = some (Value.slice A0 n c0) from rfl)
  go_upto_region 4 with fail
  rw [← HE6.out, HP5.out]
  clear y1 y4 hmk hmf
  go_wp2
  clear g6
  have hO : H + 5 < w6.heap.size := HW.out.2.2.2.1.lt
  go_loopw [27] (fun x wr => ∃ k : Nat, k ≤ n ∧ x = .int .i64 k ∧ NodAt wr 35 37 (H + 4) n (H + 6) (fun i => decide ((i + (n - t)) % n < k)) (turnG g t).at ∧ Keep [H + 4] w6 wr) (fun x _ => n - (RowKit.intOf x).toNat)
  case atStart => exact ⟨0, by omega, rfl, ⟨fun _ => .slice none 0 0, HW.out.2.2.1.congr (fun i _ => by unfold ndC; simp), fun i _ hf => by simp at hf⟩, Keep.refl _ _⟩
  case round =>
  obtain ⟨j, hj, rfl, hno, hK⟩ := hrel
  have hKw : Keep [] w wr := HW.out.2.2.2.2.since hK (by simp; have := HH.out; omega)
  have hK2 : Keep [H + 4, H + 5] w6 wr := hK.mono (fun k _ hm => by simp at hm; simp [hm])
  have hbO := HW.out.2.2.2.1.keep hK (by simp)
  have hbG := HW.out.1.keep hK (by simp)
  have hwz := hK.size
  by_cases hlt : j < n
  case neg =>
    obtain rfl : n = j := by omega
    have hrs := HG.out.1.roots
    have hrc5 := hrs.nc
    have hrm5 := hrs.cap
    rw [HN.out.2.1] at hrc5
    have cg1 := (hbG.cell 1).trans (show _ = some (Value.slice A1 n1 c1) from rfl)
    have HRE := Lib.hid (And.intro (fun W (hk : Keep [H + 4, H + 5] w6 W) => (HW.out.1.keep hk (by simp)).cell 2) (fun W (hk : Keep [H + 4, H + 5] w6 W) => HW.out.2.1.keep hk (by simp)))
    have HW5 := Lib.hid (And.intro hbO hno)
    have HR5 := Lib.hid (And.intro hKw hK2)
    have hz69 := HZ.out
    clear hrs hbO hno hKw hK2 hbG hK
    go_wp2
    clear cg1
    obtain ⟨w9, rfl⟩ : ∃ w9, w9 = wr := ⟨_, rfl⟩
    go_loopw [70] (fun x wx => ∃ (j : Nat) (v1 : Value), j ≤ n1 ∧ x = .int .i64 j ∧ Blk wx (H + 5) 25 #[.slice (some ⟨H + 4, 0, none⟩) n n, v1, .slice none 0 0] ∧ wx.ownsRow w9.heap.size 3 1 v1 j (((g.roots.take j).map (mapI (turnN n t))).map i64v) ∧ Keep [H + 5] w9 wx) (fun x _ => n1 - (RowKit.intOf x).toNat)
    case atStart => exact ⟨0, _, by omega, rfl, HW5.out.1, ⟨rfl, Or.inl ⟨rfl, rfl⟩⟩, Keep.refl _ _⟩
    case round =>
    obtain ⟨j, v1, hj, rfl, hbo, how, hK⟩ := hrel
    have hKw : Keep [] w wr := HR5.out.1.since hK (by simp; have := HH.out; omega)
    by_cases hlt : j < n1
    case neg =>
      obtain rfl : n1 = j := by omega
      rw [show g.roots.take n1 = g.roots by rw [← HN.out.2.1]; exact List.take_length] at how
      have hn6' := HW5.out.2.keepO hK (by simp)
      have hK6 := HR5.out.2.trans (hK.mono (own' := [H + 4, H + 5]) (fun k _ hm => by simp at hm; simp [hm]))
      have HW6 := Lib.hid (And.intro hbo (And.intro hn6' how))
      have HR6 := Lib.hid (And.intro hKw hK6)
      have hKR := Lib.hid hK6
      have hwz6 := hK.size
      have hrc6 := HG.out.1.weaks.nc
      have hrm6 := HG.out.1.weaks.cap
      rw [HN.out.2.2.1] at hrc6
      have cg2 := (HRE.out.1 wr hK6).trans (show _ = some (Value.slice A2 n2 c2) from rfl)
      clear hn6' hK6 hbo how hK hKw
      go_wp2
      clear cg2
      obtain ⟨w10, rfl⟩ : ∃ w10, w10 = wr := ⟨_, rfl⟩
      go_loopw [86] (fun x wx => ∃ (j : Nat) (v2 : Value), j ≤ n2 ∧ x = .int .i64 j ∧ Blk wx (H + 5) 25 #[.slice (some ⟨H + 4, 0, none⟩) n n, v1, v2] ∧ wx.ownsRow w10.heap.size 3 1 v2 j (((g.weaks.take j).map (mapI (turnN n t))).map i64v) ∧ Keep [H + 5] w10 wx) (fun x _ => n2 - (RowKit.intOf x).toNat)
      case atStart => exact ⟨0, _, by omega, rfl, HW6.out.1, ⟨rfl, Or.inl ⟨rfl, rfl⟩⟩, Keep.refl _ _⟩
      case round =>
      obtain ⟨j, v2, hj, rfl, hbo, how, hK⟩ := hrel
      have hKw : Keep [] w wr := HR6.out.1.since hK (by simp; have := HH.out; omega)
      by_cases hlt : j < n2
      case neg =>
        obtain rfl : n2 = j := by omega
        rw [show g.weaks.take n2 = g.weaks by rw [← HN.out.2.2.1]; exact List.take_length] at how
        have hn6' := HW6.out.2.1.keepO hK (by simp)
        have hr6 := owns_keepO HW6.out.2.2 hK (fun x hx hm => by have := (HW6.out.2.2.lt x hx).1; simp at hm; omega)
        obtain ⟨Ar, cr, rfl⟩ := owns_sl hr6
        obtain ⟨Aw, cw, rfl⟩ := owns_sl how
        have hre := HRE.out.2 wr (hKR.out.trans (hK.mono (fun k _ hm => by simp at hm; simp [hm])))
        have o0 := (hbo.cell 0).trans (show _ = some (Value.slice (some ⟨H + 4, 0, none⟩) n n) from rfl)
        have o1 := (hbo.cell 1).trans (show _ = some (Value.slice Ar n1 cr) from rfl)
        have o2 := (hbo.cell 2).trans (show _ = some (Value.slice Aw n2 cw) from rfl)
        have z0 := (hre.cell 0).trans (show _ = some (Value.slice none 0 0) from rfl)
        have z1 := (hre.cell 1).trans (show _ = some (Value.slice none 0 0) from rfl)
        have z2 := (hre.cell 2).trans (show _ = some (Value.slice none 0 0) from rfl)
        have f0 := hre.frozen 0
        have f1 := hre.frozen 1
        have f2 := hre.frozen 2
        have hb5 := Blk.set3 hre (.slice (some ⟨H + 4, 0, none⟩) n n) (.slice Ar n1 cr) (.slice Aw n2 cw)
        have HF := Lib.hid (And.intro hn6' (And.intro hr6 (And.intro how hKw)))
        have kg : (Try.prog.info? 25).map (·.size) = some (#[.slice (some ⟨H + 4, 0, none⟩) n n, .slice Ar n1 cr, .slice Aw n2 cw] : Array Value).size := by kernel_rfl
        clear hn6' hr6 hKw how hbo hK hre
        go_wp2
        (try simp only [Exit.inBlock, Exit.then])
        refine bodyPost_ret (v := .agg #[.slice (some ⟨H + 4, 0, none⟩) n n, .slice Ar n1 cr, .slice Aw n2 cw]) ?_ rfl ?_
        · exact results_cell_row rfl _ _ (H + 2) 25 #[.slice (some ⟨H + 4, 0, none⟩) n n, .slice Ar n1 cr, .slice Aw n2 cw] (0, 0) _ rfl hb5 Try.underlying25 rfl kg
        obtain ⟨hn7, hr7, hw7, hKw⟩ := HF.out
        have hk8 : Keep [H + 2] wr (((wr.setCell ⟨H + 2, 0, none⟩ (.slice (some ⟨H + 4, 0, none⟩) n n)).setCell ⟨H + 2, 1, none⟩ (.slice Ar n1 cr)).setCell ⟨H + 2, 2, none⟩ (.slice Aw n2 cw)) := ((Keep.setCell _ _ (by simp) _).trans (Keep.setCell _ _ (by simp) _)).trans (Keep.setCell _ _ (by simp) _)
        have hn8 := hn7.keepO hk8 (by simp)
        have hr8 := owns_keepO hr7 hk8 (fun x hx hm => by have := (hr7.lt x hx).1; simp at hm; omega)
        have hw8 := owns_keepO hw7 hk8 (fun x hx hm => by have := (hw7.lt x hx).1; simp at hm; omega)
        have hlr : (g.roots.map (mapI (turnN n t))).length = n1 := by rw [List.length_map]; exact HN.out.2.1
        have hlw : (g.weaks.map (mapI (turnN n t))).length = n2 := by rw [List.length_map]; exact HN.out.2.2.1
        have hgt : turnG g t = ⟨(turnG g t).nodes, g.roots.map (mapI (turnN n t)), g.weaks.map (mapI (turnN n t))⟩ := by unfold turnG; rw [HN.out.1]
        have hln : (turnG g t).nodes.length = n := by have := turnG_n g t; unfold Gr.n at this; rw [this]; exact HN.out.2.2.2
        obtain ⟨Br, br, e2, g2⟩ := owns_intl (l := g.roots.map (mapI (turnN n t))) (by rw [hlr]; exact hr8)
        obtain ⟨Bw, bw, e3, g3⟩ := owns_intl (l := g.weaks.map (mapI (turnN n t))) (by rw [hlw]; exact hw8)
        rw [hlr] at e2
        rw [hlw] at e3
        simp only [Value.slice.injEq] at e2 e3
        obtain ⟨rfl, _, rfl⟩ := e2
        obtain ⟨rfl, _, rfl⟩ := e3
        refine ⟨some ⟨H + 4, 0, none⟩, Ar, Aw, n, cr, cw, by rw [hgt]; dsimp only; rw [hln, hlr, hlw], ⟨?_, ?_, ?_⟩, hKw.since hk8 (by simp; have := HH.out; omega)⟩
        · exact NodAt.done hln hn8 (fun i hi => by simp only [decide_eq_true_eq]; exact Nat.mod_lt _ (by omega))
        · rw [hgt]; exact g2
        · rw [hgt]; exact g3
      obtain ⟨bA, oA, rfl, hbA, hcA⟩ := HG.out.1.weaks.cells (by rw [HN.out.2.2.1]; omega)
      have cj := (hKw.cell (p := ⟨bA, oA + j, none⟩) hbA (by simp)).trans (hcA j (by rw [HN.out.2.2.1]; exact hlt))
      have hjl : j < g.weaks.length := by rw [HN.out.2.2.1]; exact hlt
      have htn2 := take_next hjl
      have hym : g.weaks.getD j 0 ∈ g.weaks := getD_mem hjl
      have hy := HG.out.2.2.2.1 _ hym
      rw [HN.out.1] at hy
      obtain ⟨y, hye⟩ : ∃ y, g.weaks.getD j 0 = y := ⟨_, rfl⟩
      rw [hye] at cj htn2 hy
      unfold MayI at hy
      have hjI : (j : Int) < n2 := by omega
      have HAT := Lib.hid (fun W (hk : Keep [] wr W) => (show Calls Try.prog 30 #[.int .i64 y, .pointer (some ⟨H + 1, 0, none⟩), .pointer (some ⟨H + 3, 0, none⟩)] W (fun e w' => e = .returned (.int .i64 (mapI (turnN n t) y)) ∧ W = w') from by
        have hcl := CL.out W ((HR6.out.2.trans (hK.mono (fun k _ hm => by simp at hm; simp [hm]))).trans hk.of_nil)
        exact turnAt_any W (H + 1) (H + 3) n t y hn6 htn hy.2 hcl.1 hcl.2))
      have hxs : ((g.weaks.take (j + 1)).map (mapI (turnN n t))).map i64v = ((g.weaks.take j).map (mapI (turnN n t))).map i64v ++ [.int .i64 (mapI (turnN n t) y)] := by
        rw [htn2, List.map_append, List.map_append]
        rfl
      obtain ⟨xs, hxe⟩ : ∃ xs, ((g.weaks.take j).map (mapI (turnN n t))).map i64v = xs := ⟨_, rfl⟩
      rw [hxe] at how hxs
      have hsz := hK.size
      have o1 := (hbo.cell 2).trans (show _ = some v2 from rfl)
      have o1d : wr.drew.cell? ⟨H + 5, 2, none⟩ = some v2 := o1
      have o1a := ((hbo.keep (Keep.drew (own := []) wr) (by simp)).keep (Keep.alloc (own := []) _ (.cells #[.int .i64 (mapI (turnN n t) y)] 3)) (by simp)).cell 2
      have o1b := o1a.trans (show _ = some v2 from rfl)
      have HX := Lib.hid (And.intro hbo (And.intro how (And.intro hK hxs)))
      have hOl := hbo.lt
      have hOn : ¬ H + 5 = wr.heap.size := by omega
      have hOn' : ¬ wr.heap.size = H + 5 := by omega
      have hln : j ≤ 65536 := by have := HSL.out.2.1; rw [HN.out.2.2.1] at this; omega
      have hzO9 : H + 5 < w10.heap.size := by omega
      clear o1a
      clear hcA htn2 hym hye hxe hbo how hK hKw hxs hjl hy
      generalize mapI (turnN n t) y = py at *
      go_wp2_with fail
      go_region_law (first
        | (refine step_i64 rfl rfl HX.out.2.1 HX.out.1 hzO9 hsz hln (by first | rfl | simp [Act.eval, Act.put]) (by first | rfl | simp [Act.eval, Act.put]) rfl rfl rfl rfl rfl ?_; intro g2 cap2 w11 hown11 hb11 hk11; have q1 := (Blk.cell hb11 2).trans (show _ = some v2 from rfl); have q2 := Blk.frozen hb11 2)
        | (go_simp; go_at_call 30; with_reducible refine (HAT.out _ (by repeat (first | (with_reducible refine Keep.trans ?_ (Keep.drew _)) | exact Keep.refl _ _ | exact Keep.dr (Dr.drewN _ _)))).mono ?_; rintro e w' ⟨rfl, rfl⟩))
      all_goals
        have H6 := Lib.hid (And.intro (hb11.set_ 2 (.slice (some ⟨g2, 0, none⟩) (j + 1) cap2)) (And.intro (ownsRow_setCell_below hown11 (a := ⟨H + 5, 2, none⟩) (by show H + 5 < w10.heap.size; omega) (.slice (some ⟨g2, 0, none⟩) (j + 1) cap2)) ((hk11 w10 HX.out.2.2.1 (Nat.le_refl _)).trans (Keep.setCell (own := [H + 5]) w11 ⟨H + 5, 2, none⟩ (by simp) (.slice (some ⟨g2, 0, none⟩) (j + 1) cap2)))))
        clear hb11 hown11 hk11
        go_wp2_with fail
        go_roundw
        case rel => exact ⟨j + 1, .slice (some ⟨g2, 0, none⟩) (j + 1) cap2, by omega, by go_num, H6.out.1, by rw [HX.out.2.2.2]; exact H6.out.2.1, H6.out.2.2⟩
        case measure => simp [RowKit.intOf]; omega
    obtain ⟨bA, oA, rfl, hbA, hcA⟩ := HG.out.1.roots.cells (by rw [HN.out.2.1]; omega)
    have cj := (hKw.cell (p := ⟨bA, oA + j, none⟩) hbA (by simp)).trans (hcA j (by rw [HN.out.2.1]; exact hlt))
    have hjl : j < g.roots.length := by rw [HN.out.2.1]; exact hlt
    have htn2 := take_next hjl
    have hym : g.roots.getD j 0 ∈ g.roots := getD_mem hjl
    have hy := HG.out.2.2.1 _ hym
    rw [HN.out.1] at hy
    obtain ⟨y, hye⟩ : ∃ y, g.roots.getD j 0 = y := ⟨_, rfl⟩
    rw [hye] at cj htn2 hy
    unfold MayI at hy
    have hjI : (j : Int) < n1 := by omega
    have HAT := Lib.hid (fun W (hk : Keep [] wr W) => (show Calls Try.prog 30 #[.int .i64 y, .pointer (some ⟨H + 1, 0, none⟩), .pointer (some ⟨H + 3, 0, none⟩)] W (fun e w' => e = .returned (.int .i64 (mapI (turnN n t) y)) ∧ W = w') from by
      have hcl := CL.out W ((HR5.out.2.trans (hK.mono (fun k _ hm => by simp at hm; simp [hm]))).trans hk.of_nil)
      exact turnAt_any W (H + 1) (H + 3) n t y hn6 htn hy.2 hcl.1 hcl.2))
    have hxs : ((g.roots.take (j + 1)).map (mapI (turnN n t))).map i64v = ((g.roots.take j).map (mapI (turnN n t))).map i64v ++ [.int .i64 (mapI (turnN n t) y)] := by
      rw [htn2, List.map_append, List.map_append]
      rfl
    obtain ⟨xs, hxe⟩ : ∃ xs, ((g.roots.take j).map (mapI (turnN n t))).map i64v = xs := ⟨_, rfl⟩
    rw [hxe] at how hxs
    have hsz := hK.size
    have o1 := (hbo.cell 1).trans (show _ = some v1 from rfl)
    have o1d : wr.drew.cell? ⟨H + 5, 1, none⟩ = some v1 := o1
    have o1a := ((hbo.keep (Keep.drew (own := []) wr) (by simp)).keep (Keep.alloc (own := []) _ (.cells #[.int .i64 (mapI (turnN n t) y)] 3)) (by simp)).cell 1
    have o1b := o1a.trans (show _ = some v1 from rfl)
    have HX := Lib.hid (And.intro hbo (And.intro how (And.intro hK hxs)))
    have hOl := hbo.lt
    have hOn : ¬ H + 5 = wr.heap.size := by omega
    have hOn' : ¬ wr.heap.size = H + 5 := by omega
    have hln : j ≤ 65536 := by have := HSL.out.1; rw [HN.out.2.1] at this; omega
    have hzO9 : H + 5 < w9.heap.size := by omega
    clear o1a
    clear hcA htn2 hym hye hxe hbo how hK hKw hxs hjl hy
    generalize mapI (turnN n t) y = py at *
    go_wp2_with fail
    go_region_law (first
      | (refine step_i64 rfl rfl HX.out.2.1 HX.out.1 hzO9 hsz hln (by first | rfl | simp [Act.eval, Act.put]) (by first | rfl | simp [Act.eval, Act.put]) rfl rfl rfl rfl rfl ?_; intro g2 cap2 w11 hown11 hb11 hk11; have q1 := (Blk.cell hb11 1).trans (show _ = some v1 from rfl); have q2 := Blk.frozen hb11 1)
      | (go_simp; go_at_call 30; with_reducible refine (HAT.out _ (by repeat (first | (with_reducible refine Keep.trans ?_ (Keep.drew _)) | exact Keep.refl _ _ | exact Keep.dr (Dr.drewN _ _)))).mono ?_; rintro e w' ⟨rfl, rfl⟩))
    all_goals
      have H6 := Lib.hid (And.intro (hb11.set_ 1 (.slice (some ⟨g2, 0, none⟩) (j + 1) cap2)) (And.intro (ownsRow_setCell_below hown11 (a := ⟨H + 5, 1, none⟩) (by show H + 5 < w9.heap.size; omega) (.slice (some ⟨g2, 0, none⟩) (j + 1) cap2)) ((hk11 w9 HX.out.2.2.1 (Nat.le_refl _)).trans (Keep.setCell (own := [H + 5]) w11 ⟨H + 5, 1, none⟩ (by simp) (.slice (some ⟨g2, 0, none⟩) (j + 1) cap2)))))
      clear hb11 hown11 hk11
      go_wp2_with fail
      go_roundw
      case rel => exact ⟨j + 1, .slice (some ⟨g2, 0, none⟩) (j + 1) cap2, by omega, by go_num, H6.out.1, by rw [HX.out.2.2.2]; exact H6.out.2.1, H6.out.2.2⟩
      case measure => simp [RowKit.intOf]; omega
  obtain ⟨bN, oN, rfl, hbN, hcN⟩ := HG.out.1.nodes.cells (by rw [HN.out.2.2.2]; omega)
  obtain ⟨AF, cF, e0, e1, hvF⟩ := hcN j (by rw [HN.out.2.2.2]; exact hlt)
  have hfa : (g.nodes.getD j nod0) = g.at j := rfl
  rw [hfa] at e0 e1 hvF
  have hpm : ∀ v ∈ (g.at j).fs, v.K = 3 → 0 ≤ v.r ∧ v.r < n := fun v hv h3 => by
    have := (HG.out.2.2.2.2 _ (at_mem (by rw [HN.out.1]; exact hlt)) v hv).2.2 h3
    rwa [HN.out.1] at this
  have hLp : (turnG g t).at (turnN n t j) = ⟨(g.at j).K, (g.at j).fs.map (tF n t)⟩ := by
    unfold turnG
    show (List.map _ (List.range g.n)).getD _ _ = _
    rw [HN.out.1, List.getD_eq_getElem?_getD]
    simp only [List.getElem?_map, List.getElem?_range (show turnN n t j < n from Nat.mod_lt _ (by omega)), Option.map_some, Option.getD_some, turn_back htn hlt]
    rfl
  obtain ⟨K, hKe⟩ : ∃ K, (g.at j).K = K := ⟨_, rfl⟩
  obtain ⟨fs, hfs⟩ : ∃ fs, (g.at j).fs = fs := ⟨_, rfl⟩
  rw [hKe, hfs] at hLp
  have HLP := Lib.hid hLp
  rw [hKe] at e0
  have hsl2 := HSL.out.2.2 j (by rw [HN.out.1]; exact hlt)
  rw [hfs] at e1 hvF hpm hsl2
  have hfc := hvF.nc
  have hfm := hvF.cap
  obtain ⟨mF, hmF⟩ : ∃ mF, fs.length = mF := ⟨_, rfl⟩
  rw [hmF] at e1 hfc hsl2
  have cN0 := (hKw.cell (p := ⟨bN, _, none⟩) hbN (by simp)).trans e0
  have cN1 := (hKw.cell (p := ⟨bN, _, none⟩) hbN (by simp)).trans e1
  have hjI : (j : Int) < n := by omega
  have kx : Keep [] wr (wr.alloc (.cells #[.int .i64 K, .slice AF mF cF] 35)) := Keep.alloc _ _
  have bx := Blk.new wr 35 #[.int .i64 K, .slice AF mF cF]
  obtain ⟨wx, hwx⟩ : ∃ wx, wx = wr.alloc (.cells #[.int .i64 K, .slice AF mF cF] 35) := ⟨_, rfl⟩
  have hzx : wx.heap.size = wr.heap.size + 1 := by rw [hwx]; simp
  rw [← hwx] at kx bx
  have ky : Keep [] wx (wx.alloc (.cells #[.int .i64 K, .slice none 0 0] 35)) := Keep.alloc _ _
  have byy := Blk.new wx 35 #[.int .i64 K, .slice none 0 0]
  obtain ⟨w8, hw8⟩ : ∃ w8, w8 = wx.alloc (.cells #[.int .i64 K, .slice none 0 0] 35) := ⟨_, rfl⟩
  have hz8 : w8.heap.size = wr.heap.size + 2 := by rw [hw8]; simp [hzx]
  rw [← hw8] at ky byy
  rw [hzx] at byy
  have hbx8 := bx.keep ky (by simp)
  have c0x := (bx.cell 0).trans (show _ = some (Value.int .i64 K) from rfl)
  have c1x := (hbx8.cell 1).trans (show _ = some (Value.slice AF mF cF) from rfl)
  have HV := Lib.hid (And.intro hvF (And.intro hmF hpm))
  have HW8 := Lib.hid (show w8 = (wr.alloc (.cells #[.int .i64 K, .slice AF mF cF] 35)).alloc (.cells #[.int .i64 K, .slice none 0 0] 35) by rw [hw8, hwx])
  have HK8 := Lib.hid (And.intro hKw hK2)
  have HKO := Lib.hid hK
  have H8 := Lib.hid (And.intro hno (And.intro (kx.trans ky) (And.intro byy hbO)))
  clear hcN e0 e1 hfa hKe hfs hLp hvF hpm hmF hno hbO hbG kx ky bx byy hbx8 hw8 hwx hzx hKw hK2 hK
  go_upto_region 8 with fail
  rw [← HW8.out]
  go_wp2
  obtain ⟨X, hX⟩ : ∃ X, wr.heap.size + 1 = X := ⟨_, rfl⟩
  have HXO := Lib.hid (show H + 6 ≤ X by have := HZ.out; omega)
  have HX8 := Lib.hid (show wr.heap.size ≤ X by omega)
  have hz8 : w8.heap.size = X + 1 := by omega
  rw [hX] at H8 ⊢
  clear c0x c1x cN0 cN1 hX
  go_loopw [38] (fun x wx => ∃ (q : Nat) (vf : Value), q ≤ mF ∧ x = .int .i64 q ∧ Blk wx X 35 #[.int .i64 K, vf] ∧ wx.ownsRow (X + 1) 37 5 vf q (rowV ((fs.take q).map (tF n t))) ∧ Keep [X] w8 wx) (fun x _ => mF - (RowKit.intOf x).toNat)
  case atStart => exact ⟨0, _, by omega, rfl, H8.out.2.2.1, ⟨rfl, Or.inl ⟨rfl, rfl⟩⟩, Keep.refl _ _⟩
  case round =>
  obtain ⟨q, vf, hq, rfl, hbx, how, hKx⟩ := hrel
  have hKw8 : Keep [] w w8 := HK8.out.1.trans H8.out.2.1
  have hwX : w.heap.size ≤ X := by have := HXO.out; have := HH.out; omega
  have hKy : Keep [] w wr := hKw8.since hKx (by simpa using hwX)
  by_cases hqt : q < mF
  case neg =>
    obtain rfl : q = mF := by omega
    rw [show fs.take q = fs by rw [← HV.out.2.1]; exact List.take_length] at how
    obtain ⟨A5, c5, rfl⟩ := owns_sl how
    have kk := H8.out.2.1.since hKx (by simpa using HX8.out)
    have hno := H8.out.1.keepO kk (by simp)
    have hbO := H8.out.2.2.2.keep kk (by simp)
    have kk6 := HK8.out.2.trans (kk.of_nil (own := [H + 4, H + 5]))
    have hp : turnN n t j < n := Nat.mod_lt _ (by omega)
    have HAT := Lib.hid (fun W (hk : Keep [] wr W) => (show Calls Try.prog 30 #[.int .i64 (j : Nat), .pointer (some ⟨H + 1, 0, none⟩), .pointer (some ⟨H + 3, 0, none⟩)] W (fun e w' => e = .returned (.int .i64 (turnN n t j : Nat)) ∧ W = w') from by
      have hcl := CL.out W (kk6.trans hk.of_nil)
      have := turnAt_any W (H + 1) (H + 3) n t (j : Nat) hn6 htn (by omega) hcl.1 hcl.2
      rwa [mapI_nat] at this))
    have HF2 := Lib.hid (fun i (hi : i < n) => (show decide ((i + (n - t)) % n < j + 1) = (decide ((i + (n - t)) % n < j) || decide (i = turnN n t j)) from by
      by_cases e : i = turnN n t j
      · subst e
        rw [turn_back htn hlt]
        simp
      · have hne : (i + (n - t)) % n ≠ j := fun e2 => e (by rw [← e2, turn_fwd htn hi])
        rw [Bool.eq_iff_iff]
        simp only [Bool.or_eq_true, decide_eq_true_eq]
        omega))
    have hset := NodAt.set (F' := fun i => decide ((i + (n - t)) % n < j + 1)) (vf := .slice A5 q c5) hno hp (by omega) HF2.out (by rw [HLP.out]; dsimp only; rw [List.length_map, HV.out.2.1]; exact owns_mono how (by have := HXO.out; omega))
    rw [show ((turnG g t).at (turnN n t j)).K = K by rw [HLP.out]] at hset
    obtain ⟨vs, hrow, _⟩ := id hno
    obtain ⟨P, hP⟩ : ∃ P, turnN n t j = P := ⟨_, rfl⟩
    rw [hP] at hset hp HAT
    have d0 := hrow.cell (i := P * 2) (by omega)
    have d1 := hrow.cell (i := P * 2 + 1) (by omega)
    have e0 := hrow.frozen (P * 2)
    have e1 := hrow.frozen (P * 2 + 1)
    have d0d : wr.drew.cell? ⟨H + 4, P * 2, none⟩ = _ := d0
    have d1d : wr.drew.cell? ⟨H + 4, P * 2 + 1, none⟩ = _ := d1
    have e0d : wr.drew.frozen? ⟨H + 4, P * 2, none⟩ = false := hrow.frozen (P * 2)
    have e1d : wr.drew.frozen? ⟨H + 4, P * 2 + 1, none⟩ = false := hrow.frozen (P * 2 + 1)
    have o0d : wr.drew.cell? ⟨H + 5, 0, none⟩ = some (.slice (some ⟨H + 4, 0, none⟩) n n) := (hbO.cell 0).trans rfl
    have x0d : wr.drew.cell? ⟨X, 0, none⟩ = some (.int .i64 K) := (hbx.cell 0).trans rfl
    have x1d : wr.drew.cell? ⟨X, 1, none⟩ = some (.slice A5 q c5) := (hbx.cell 1).trans rfl
    have hPI : (P : Int) < n := by omega
    have hk7 : Keep [H + 4] wr ((wr.setCell ⟨H + 4, P * 2, none⟩ (.int .i64 K)).setCell ⟨H + 4, P * 2 + 1, none⟩ (.slice A5 q c5)) := (Keep.setCell _ _ (by simp) _).trans (Keep.setCell _ _ (by simp) _)
    have H9 := Lib.hid (And.intro hset ((HKO.out.trans (kk.of_nil (own := [H + 4]))).trans hk7))
    clear how kk hno hbO kk6 hset hrow hk7 hP hbx hKx hKw8 hKy
    generalize ndC (fun i => if decide ((i + (n - t)) % n < j) = true then ((turnG g t).at i).K else 0) (fun i => if decide ((i + (n - t)) % n < j) = true then vs i else .slice none 0 0) = NC at *
    go_wp2_with fail
    go_region_law (go_simp; go_at_call 30; with_reducible refine (HAT.out _ (by repeat (first | (with_reducible refine Keep.trans ?_ (Keep.drew _)) | exact Keep.refl _ _ | exact Keep.dr (Dr.drewN _ _)))).mono ?_; rintro e w' ⟨rfl, rfl⟩)
    all_goals
      go_wp2_with fail
      go_roundw
      case rel => exact ⟨j + 1, by omega, by go_num, H9.out.1.keepO (Keep.drew (own := []) _) (by simp), H9.out.2.trans (Keep.drew _)⟩
      case measure => simp [RowKit.intOf]; omega
  obtain ⟨bF, oF, rfl, hbF, hcF⟩ := HV.out.1.cells (by rw [HV.out.2.1]; omega)
  obtain ⟨q0, q1, q2, q3, q4⟩ := hcF q (by rw [HV.out.2.1]; exact hqt)
  have d0 := (hKy.cell (p := ⟨bF, _, none⟩) hbF (by simp)).trans q0
  have d1 := (hKy.cell (p := ⟨bF, _, none⟩) hbF (by simp)).trans q1
  have d2 := (hKy.cell (p := ⟨bF, _, none⟩) hbF (by simp)).trans q2
  have d3 := (hKy.cell (p := ⟨bF, _, none⟩) hbF (by simp)).trans q3
  have d4 := (hKy.cell (p := ⟨bF, _, none⟩) hbF (by simp)).trans q4
  have hqf : q < fs.length := by rw [HV.out.2.1]; exact hqt
  have hft : (fs.take (q + 1)).map (tF n t) = (fs.take q).map (tF n t) ++ [tF n t (fs.getD q z0)] := by
    have e2 : fs.take (q + 1) = fs.take q ++ [fs.getD q z0] := by
      rw [List.take_add_one, List.getD_eq_getElem?_getD, List.getElem?_eq_getElem hqf]
      rfl
    rw [e2, List.map_append]
    rfl
  have hvm : fs.getD q z0 ∈ fs := by rw [List.getD_eq_getElem?_getD, List.getElem?_eq_getElem hqf]; exact List.getElem_mem hqf
  have hvr := HV.out.2.2 _ hvm
  obtain ⟨V, hV⟩ : ∃ V, fs.getD q z0 = V := ⟨_, rfl⟩
  rw [hV] at d0 d1 d2 d3 d4 hft hvr
  obtain ⟨x0, x1, x2, x3, x4⟩ := V
  dsimp only at d0 d1 d2 d3 d4 hvr
  have hqI : (q : Int) < mF := by omega
  have ka : Keep [] wr (wr.alloc (.cells #[.int .i64 x0, .int .i64 x1, .int .u64 x2, .int .u64 x3, .int .i64 x4] 37)) := Keep.alloc _ _
  have hbv := Blk.new wr 37 #[.int .i64 x0, .int .i64 x1, .int .u64 x2, .int .u64 x3, .int .i64 x4]
  have H9 := Lib.hid (And.intro (hbx.keep ka (by simp)) (And.intro (owns_kept how ka) (And.intro (hKx.trans ka.of_nil) hbv)))
  have hXV : X < wr.heap.size := hbx.lt
  have hlv := fun g hg => (how.lt g hg).2
  clear hbx how hKx ka hbv hcF q0 q1 q2 q3 q4 hV hvm hKw8 hKy
  go_wp2_with fail
  (with_reducible refine (rplain_v x0 x1 x2 x3 x4 _).mono ?_)
  rintro e w9 ⟨rfl, k9⟩
  have hP0 := plainV_K ⟨x0, x1, x2, x3, x4⟩
  have hP4 : x0 = 3 → plainV ⟨x0, x1, x2, x3, x4⟩ = ⟨3, 0, 0, 0, x4⟩ := fun h => by subst h; rfl
  have hP5 : ¬ x0 = 3 → tF n t ⟨x0, x1, x2, x3, x4⟩ = plainV ⟨x0, x1, x2, x3, x4⟩ := fun h => by unfold tF mapV; rw [if_neg h]
  have hP6 : x0 = 3 → tF n t ⟨x0, x1, x2, x3, x4⟩ = ⟨3, 0, 0, 0, mapI (turnN n t) x4⟩ := fun h => by unfold tF mapV; rw [if_pos h]; rfl
  obtain ⟨P, hP⟩ : ∃ P, plainV ⟨x0, x1, x2, x3, x4⟩ = P := ⟨_, rfl⟩
  rw [hP] at hP0 hP4 hP5 ⊢
  obtain ⟨p0, p1, p2, p3, p4⟩ := P
  dsimp only at hP0 ⊢
  obtain rfl : x0 = p0 := hP0.symm
  obtain ⟨V, hV⟩ : ∃ V, wr.heap.size = V := ⟨_, rfl⟩
  have hb9 := H9.out.2.2.2.keep k9 (by simp)
  have hx9 := H9.out.1.keep k9 (by simp)
  have ho9 := owns_kept H9.out.2.1 k9
  have hk9 := H9.out.2.2.1.trans k9.of_nil
  rw [hV] at hb9 hXV ⊢
  have z0 := (hb9.cell 0).trans (show _ = some (Value.int .i64 x0) from rfl)
  have z1 := (hb9.cell 1).trans (show _ = some (Value.int .i64 x1) from rfl)
  have z2 := (hb9.cell 2).trans (show _ = some (Value.int .u64 x2) from rfl)
  have z3 := (hb9.cell 3).trans (show _ = some (Value.int .u64 x3) from rfl)
  have z4 := (hb9.cell 4).trans (show _ = some (Value.int .i64 x4) from rfl)
  have f0 := hb9.frozen 0
  have f1 := hb9.frozen 1
  have f2 := hb9.frozen 2
  have f3 := hb9.frozen 3
  have f4 := hb9.frozen 4
  have H10 := Lib.hid (And.intro hb9 (And.intro hx9 (And.intro ho9 hk9)))
  clear d0 d1 d2 d3 d4 hP k9 hb9 hx9 ho9 hk9
  go_upto_region 12 with fail
  have hb10 := Blk.set5 H10.out.1 (.int .i64 x0) (.int .i64 p1) (.int .u64 p2) (.int .u64 p3) (.int .i64 p4)
  obtain ⟨wv, hwv⟩ : ∃ wv, wv = (((((w9.setCell ⟨V, 0, none⟩ (.int .i64 x0)).setCell ⟨V, 1, none⟩ (.int .i64 p1)).setCell ⟨V, 2, none⟩ (.int .u64 p2)).setCell ⟨V, 3, none⟩ (.int .u64 p3)).setCell ⟨V, 4, none⟩ (.int .i64 p4)) := ⟨_, rfl⟩
  rw [← hwv] at hb10 ⊢
  have k10 : Keep [V] w9 wv := by
    rw [hwv]
    exact ((((Keep.setCell _ _ (by simp) _).trans (Keep.setCell _ _ (by simp) _)).trans (Keep.setCell _ _ (by simp) _)).trans (Keep.setCell _ _ (by simp) _)).trans (Keep.setCell _ _ (by simp) _)
  have hVo : ∀ g, vf.ownBlock = some g → g ∉ [V] := fun g hg hm => by
    have := hlv g hg
    rw [List.mem_singleton] at hm
    omega
  have H11 := Lib.hid (And.intro hb10 (And.intro (H10.out.2.1.keep k10 (by simp; omega)) (And.intro (owns_keepO H10.out.2.2.1 k10 hVo) (And.intro (H10.out.2.2.2.later k10 (by simp; omega)) hVo))))
  clear hb10 k10 hVo hwv H10 H9 hlv z0 z1 z2 z3 z4 f0 f1 f2 f3 f4 hV
  have z0 := (H11.out.1.cell 0).trans (show _ = some (Value.int .i64 x0) from rfl)
  by_cases h3 : x0 = 3
  · subst h3
    have e9 := hP4 rfl
    obtain ⟨_, rfl, rfl, rfl, rfl⟩ := Val.mk.inj e9
    obtain ⟨r, rfl⟩ : ∃ r : Nat, p4 = r := ⟨p4.toNat, by have := hvr rfl; omega⟩
    have hrk : r < n := by have := hvr rfl; omega
    have z4 := (H11.out.1.cell 4).trans (show _ = some (Value.int .i64 (r : Nat)) from rfl)
    have f4 := H11.out.1.frozen 4
    have hcl := CL.out wv (((HK8.out.2.trans H8.out.2.1.of_nil).later H11.out.2.2.2.1 (by have := HXO.out; simp; omega)))
    have hpl := turnAt_any wv (H + 1) (H + 3) n t (r : Nat) hn6 htn (by omega) hcl.1 hcl.2
    clear hcl
    have HR := Lib.hid (hP6 rfl)
    have h11b := H11.out.1.set_ 4 (.int .i64 (mapI (turnN n t) (r : Nat)))
    clear hP0 hP4 hP5 hP6
    go_upto_region 13 with fail
    go_wp2_with fail
    (with_reducible refine hpl.mono ?_)
    rintro e wy ⟨rfl, rfl⟩
    go_upto_region 14 with fail
    have k11 : Keep [V] wv (wv.setCell ⟨V, 4, none⟩ (.int .i64 (mapI (turnN n t) (r : Nat)))) := Keep.setCell _ _ (by simp) _
    have HV5 := Lib.hid (And.intro (show Blk (wv.setCell ⟨V, 4, none⟩ (.int .i64 (mapI (turnN n t) (r : Nat)))) V 37 #[.int .i64 3, .int .i64 0, .int .u64 0, .int .u64 0, .int .i64 (mapI (turnN n t) (r : Nat))] from h11b) (And.intro (H11.out.2.1.keep k11 (by simp; omega)) (And.intro (owns_keepO H11.out.2.2.1 k11 H11.out.2.2.2.2) (And.intro (H11.out.2.2.2.1.later k11 (by simp; omega)) H11.out.2.2.2.2))))
    obtain ⟨wz, hwz⟩ : ∃ wz, wz = wv.setCell ⟨V, 4, none⟩ (.int .i64 (mapI (turnN n t) (r : Nat))) := ⟨_, rfl⟩
    rw [← hwz] at HV5 ⊢
    clear H11 z0 z4 f4 h11b k11 hwz hpl
    generalize mapI (turnN n t) (r : Nat) = y4 at *
    obtain ⟨LL, hLL⟩ : ∃ LL, (fs.take q).map (tF n t) = LL := ⟨_, rfl⟩
    rw [hLL] at hft HV5
    have z0 := (HV5.out.1.cell 0).trans (show _ = some (Value.int .i64 3) from rfl)
    have z1 := (HV5.out.1.cell 1).trans (show _ = some (Value.int .i64 0) from rfl)
    have z2 := (HV5.out.1.cell 2).trans (show _ = some (Value.int .u64 0) from rfl)
    have z3 := (HV5.out.1.cell 3).trans (show _ = some (Value.int .u64 0) from rfl)
    have z4 := (HV5.out.1.cell 4).trans (show _ = some (Value.int .i64 y4) from rfl)
    have xf1 := (HV5.out.2.1.cell 1).trans (show _ = some vf from rfl)
    have HNW := Lib.hid (five_new wz 3 0 0 0 y4 37)
    have HO := Lib.hid (owns_kept HV5.out.2.2.1 (show Keep [] wz (wz.alloc (.cells #[.int .i64 3, .int .i64 0, .int .u64 0, .int .u64 0, .int .i64 y4] 37)) from Keep.alloc _ _))
    have hsX := HV5.out.2.2.2.1.size
    obtain ⟨ii, hii, hi0, hi1, hi2⟩ := info_of valpart5
    go_wp2_with (at_builtin; refine wpList_append_own_at _ rfl (.tmp 53) (.tmp 55) 33 rfl (X + 1) 37 ii (.agg #[.int .i64 0, .int .i64 0, .int .u64 0, .int .u64 0, .int .i64 0]) 5 40 Try.underlying33 hii hi0 hi1 hi2 rfl (by omega) vf q (rowV LL) rfl HO.out ⟨wz.heap.size, 0, none⟩ 1 1 (cellsV ⟨3, 0, 0, 0, y4⟩) rfl ?c1 HNW.out ?c3 ?c4 ?c5 ?c6 ?_)
    (try (case c1 => rfl))
    case c3 => intro z hz; simp [cellsV] at hz; rcases hz with rfl | rfl | rfl | rfl | rfl <;> rfl
    case c4 => unfold maxLen; omega
    case c5 => omega
    case c6 => first | omega | (simp; omega)
    intro v' w'' hown2 hgrow _ _
    have hx5 := grown_blk (HV5.out.2.1.keep (Keep.alloc (own := []) _ _) (by simp)) (by omega) HO.out hgrow
    have hk5 : Keep [X] w8 w'' := by
      refine (HV5.out.2.2.2.1.trans (Keep.alloc _ (.cells #[.int .i64 3, .int .i64 0, .int .u64 0, .int .u64 0, .int .i64 y4] 37))).later (own' := vf.ownBlock.toList) (Keep.grown hgrow (fun k _ e => by rw [e]; simp)) (fun x hx => ?_)
      have := (HO.out.lt x (by simpa using hx)).1
      omega
    have xg1 := (hx5.cell 1).trans (show _ = some vf from rfl)
    have fg1 := hx5.frozen 1
    have hown3 : w''.ownsRow (X + 1) 37 5 v' (q + 1) (rowV ((fs.take (q + 1)).map (tF n t))) := by
      rw [hft, rowV_snoc, HR.out]
      exact hown2
    obtain ⟨A9, c9, rfl⟩ := owns_sl hown3
    have H6 := Lib.hid (And.intro (hx5.set_ 1 (.slice A9 (q + 1) c9)) (And.intro (ownsRow_setCell_below hown3 (a := ⟨X, 1, none⟩) (by show X < X + 1; omega) (.slice A9 (q + 1) c9)) (hk5.trans (Keep.setCell (own := [X]) w'' ⟨X, 1, none⟩ (by simp) (.slice A9 (q + 1) c9)))))
    clear hown2 hown3 hx5 hk5 hgrow
    go_wp2
    go_roundw
    case rel => exact ⟨q + 1, .slice A9 (q + 1) c9, by omega, by go_num, H6.out.1, H6.out.2.1, H6.out.2.2⟩
    case measure => simp [RowKit.intOf]; omega
  · have h3' : (x0 == 3) = false := by simpa using h3
    have HR := Lib.hid (hP5 h3)
    clear hP4 hP5 hP6
    go_upto_region 14 with fail
    have HV5 := H11
    clear H11 z0
    obtain ⟨LL, hLL⟩ : ∃ LL, (fs.take q).map (tF n t) = LL := ⟨_, rfl⟩
    rw [hLL] at hft HV5
    have z0 := (HV5.out.1.cell 0).trans (show _ = some (Value.int .i64 x0) from rfl)
    have z1 := (HV5.out.1.cell 1).trans (show _ = some (Value.int .i64 p1) from rfl)
    have z2 := (HV5.out.1.cell 2).trans (show _ = some (Value.int .u64 p2) from rfl)
    have z3 := (HV5.out.1.cell 3).trans (show _ = some (Value.int .u64 p3) from rfl)
    have z4 := (HV5.out.1.cell 4).trans (show _ = some (Value.int .i64 p4) from rfl)
    have xf1 := (HV5.out.2.1.cell 1).trans (show _ = some vf from rfl)
    have HNW := Lib.hid (five_new wv x0 p1 p2 p3 p4 37)
    have HO := Lib.hid (owns_kept HV5.out.2.2.1 (show Keep [] wv (wv.alloc (.cells #[.int .i64 x0, .int .i64 p1, .int .u64 p2, .int .u64 p3, .int .i64 p4] 37)) from Keep.alloc _ _))
    have hsX := HV5.out.2.2.2.1.size
    obtain ⟨ii, hii, hi0, hi1, hi2⟩ := info_of valpart5
    go_wp2_with (at_builtin; refine wpList_append_own_at _ rfl (.tmp 53) (.tmp 55) 33 rfl (X + 1) 37 ii (.agg #[.int .i64 0, .int .i64 0, .int .u64 0, .int .u64 0, .int .i64 0]) 5 40 Try.underlying33 hii hi0 hi1 hi2 rfl (by omega) vf q (rowV LL) rfl HO.out ⟨wv.heap.size, 0, none⟩ 1 1 (cellsV ⟨x0, p1, p2, p3, p4⟩) rfl ?d1 HNW.out ?d3 ?d4 ?d5 ?d6 ?_)
    (try (case d1 => rfl))
    case d3 => intro z hz; simp [cellsV] at hz; rcases hz with rfl | rfl | rfl | rfl | rfl <;> rfl
    case d4 => unfold maxLen; omega
    case d5 => omega
    case d6 => first | omega | (simp; omega)
    intro v' w'' hown2 hgrow _ _
    have hx5 := grown_blk (HV5.out.2.1.keep (Keep.alloc (own := []) _ _) (by simp)) (by omega) HO.out hgrow
    have hk5 : Keep [X] w8 w'' := by
      refine (HV5.out.2.2.2.1.trans (Keep.alloc _ (.cells #[.int .i64 x0, .int .i64 p1, .int .u64 p2, .int .u64 p3, .int .i64 p4] 37))).later (own' := vf.ownBlock.toList) (Keep.grown hgrow (fun k _ e => by rw [e]; simp)) (fun x hx => ?_)
      have := (HO.out.lt x (by simpa using hx)).1
      omega
    have xg1 := (hx5.cell 1).trans (show _ = some vf from rfl)
    have fg1 := hx5.frozen 1
    have hown3 : w''.ownsRow (X + 1) 37 5 v' (q + 1) (rowV ((fs.take (q + 1)).map (tF n t))) := by
      rw [hft, rowV_snoc, HR.out]
      exact hown2
    obtain ⟨A9, c9, rfl⟩ := owns_sl hown3
    have H6 := Lib.hid (And.intro (hx5.set_ 1 (.slice A9 (q + 1) c9)) (And.intro (ownsRow_setCell_below hown3 (a := ⟨X, 1, none⟩) (by show X < X + 1; omega) (.slice A9 (q + 1) c9)) (hk5.trans (Keep.setCell (own := [X]) w'' ⟨X, 1, none⟩ (by simp) (.slice A9 (q + 1) c9)))))
    clear hown2 hown3 hx5 hk5 hgrow
    go_wp2
    go_roundw
    case rel => exact ⟨q + 1, .slice A9 (q + 1) c9, by omega, by go_num, H6.out.1, H6.out.2.1, H6.out.2.2⟩
    case measure => simp [RowKit.intOf]; omega

end Go.Proofs.Ytigclopkoolocaa

