/-
  The document's twin of layout: ParseKind. No conditions but what is in memory.
-/
import Derived.Test.YtolighoceecheaaR66
namespace Go.Proofs.Ytolighoceecheaa
open Go.RowKit Go.Flo Go.Bit
set_option maxRecDepth 100000

def RPkPost (x : Nat) (w : World) (e : Ending) (w' : World) : Prop :=
  (RPk x ∧ RPkYes x w e w') ∨ (¬ RPk x ∧ e = .returned (.tuple #[.agg #[.slice none 0 0], .bool false]) ∧ Keep [] w w')

def RpRel (w : World) (x : Nat) (y : Value) (wr : World) : Prop :=
  ∃ (j : Nat) (v : Value), j ≤ pm x ∧ y = .int .i64 j ∧ wr.ownsRow (w.heap.size + 2) 3 1 v j ((List.range j).map (iv (pf x))) ∧ Blk wr (w.heap.size + 1) 25 #[v] ∧ Blk wr w.heap.size 25 #[.slice none 0 0] ∧ Keep [] w wr

theorem two (w : World) (X Y : Array Value) (t1 t2 : TypeId) :
    Blk ((w.alloc (.cells X t1)).alloc (.cells Y t2)) (w.heap.size + 1) t2 Y ∧ Blk ((w.alloc (.cells X t1)).alloc (.cells Y t2)) w.heap.size t1 X ∧ Keep [] w ((w.alloc (.cells X t1)).alloc (.cells Y t2)) := by
  have k1 : Keep [] w (w.alloc (.cells X t1)) := Keep.alloc _ _
  have k2 : Keep [] (w.alloc (.cells X t1)) ((w.alloc (.cells X t1)).alloc (.cells Y t2)) := Keep.alloc _ _
  have b2 := Blk.new (w.alloc (.cells X t1)) t2 Y
  rw [show (w.alloc (.cells X t1)).heap.size = w.heap.size + 1 by simp] at b2
  exact ⟨b2, (Blk.new w t1 X).keep k2 (by simp), k1.trans k2⟩

theorem and15 (x : Nat) (hx : x < 18446744073709551616) : bits BinOp.and IntKind.u64 (x : Int) 15 = ((pm x : Nat) : Int) := and_mask x 4 hx (by omega)

theorem and3 (x p : Nat) (hx : x < 18446744073709551616) : bits BinOp.and IntKind.u64 ((x : Int) / 2 ^ p) 3 = ((x / 2 ^ p % 4 : Nat) : Int) := by
  rw [div_cast]
  exact and_mask (x / 2 ^ p) 2 (div_lt64 x p hx) (by omega)

theorem one_new6 (W : World) (v : Value) (t : TypeId) : ∀ j u, [v][j]? = some u → (W.alloc (.cells #[v] t)).cell? ((⟨W.heap.size, 0, none⟩ : Addr).add j) = some u := by
  intro j u hu
  match j, hu with
  | 0, hu =>
    rw [addr_add0]
    have := (Blk.new W t #[v]).cell 0
    rw [Nat.zero_add, this]
    simpa using hu

set_option maxHeartbeats 2000000 in
theorem rparseKind_any (x : Nat) (hx : x < 18446744073709551616) (w : World) :
    Calls Try.prog 22 #[.int .u64 x] w (RPkPost x w) := by
  have hm := pm_lt x
  have h15 := and15 x hx
  have h2 := two w #[.slice none 0 0] #[.slice none 0 0] 25 25
  have HS := Lib.hid h2
  clear h2
  obtain ⟨ii, hii, hz0, hz1, hz2⟩ := info_of intparts
  go_enter Try.func22, Try.ntmps22
  go_wp2
  clear h15
  go_loopw [10] (fun y wr => RpRel w x y wr) (fun y _ => pm x - (intOf y).toNat)
  case atStart => exact ⟨0, .slice none 0 0, by omega, rfl, ⟨rfl, Or.inl ⟨rfl, rfl⟩⟩, HS.out.1, HS.out.2.1, HS.out.2.2⟩
  case round =>
  obtain ⟨j, v, hj, rfl, hown, hB1, hB0, hK⟩ := hrel
  obtain ⟨A, c, rfl, hI, hAB⟩ := owns_ints hown
  by_cases hlt : j < pm x
  case neg =>
    obtain rfl : j = pm x := by omega
    have q0 := (hB1.cell 0).trans (show _ = some (Value.slice A (pm x) c) from rfl)
    have hmay := rmayKind_any wr A (pm x) c (pf x) hI
    have HI := Lib.hid hI
    have HB0 := Lib.hid hB0
    have HB1 := Lib.hid hB1
    clear hown hI hB0 hB1
    have k60 : (Try.prog.info? 25).map (·.size) = some (#[.slice none 0 0] : Array Value).size := by kernel_rfl
    by_cases hM : MayK (pm x) (pf x)
    case neg =>
      rw [show decide (MayK (pm x) (pf x)) = false from decide_eq_false hM] at hmay
      have HN := Lib.hid (show ¬ RPk x from fun h => hM h.1)
      clear hM
      go_wp2_with fail
      (with_reducible refine hmay.mono ?_)
      rintro e w3 ⟨rfl, k3⟩
      have hB3 := HB0.out.keep k3 (by simp)
      have y0 := (hB3.cell 0).trans (show _ = some (Value.slice none 0 0) from rfl)
      have y1 := hB3.frozen 0
      go_wp2
      (try simp only [Exit.inBlock, Exit.then])
      have hB5 : Blk (w3.setCell ⟨w.heap.size, 0, none⟩ (.slice none 0 0)) w.heap.size 25 #[.slice none 0 0] := hB3.set_ 0 _
      refine bodyPost_ret (v := .tuple #[.agg #[.slice none 0 0], .bool false]) ?_ rfl ?_
      · exact results_cell_tmp rfl _ _ w.heap.size 25 #[.slice none 0 0] (0, 0) _ _ rfl rfl hB5 Try.underlying25 rfl k60
      exact Or.inr ⟨HN.out, rfl, (hK.trans k3).since (own := [w.heap.size]) (Keep.setCell _ _ (by simp) _) (by simp)⟩
    rw [show decide (MayK (pm x) (pf x)) = true from decide_eq_true hM] at hmay
    have hkw := fun W (hk : Keep [] wr W) => rkindWord_yes W A (pm x) c (pf x) (HI.out.keep hk) hM
    have hup := kw_p x
    obtain ⟨y, hy⟩ : ∃ y, kw (pm x) (pf x) = y := ⟨_, rfl⟩
    rw [hy] at hkw hup
    have HKW := Lib.hid hkw
    have HM := Lib.hid hM
    clear hkw hM hy
    by_cases hU : Up x
    case neg =>
      have HN := Lib.hid (show ¬ RPk x from fun h => hU h.2)
      have hyx : y ≠ x := fun h => hU (hup.1 h)
      have hne : ((y : Int) == (x : Int)) = false := by simp; omega
      clear hU hup
      go_wp2_with fail
      (with_reducible refine hmay.mono ?_)
      rintro e w3 ⟨rfl, k3⟩
      have q0' := ((HB1.out.keep k3 (by simp)).cell 0).trans (show _ = some (Value.slice A (pm x) c) from rfl)
      clear q0
      go_wp2_with fail
      (with_reducible refine (HKW.out _ k3).mono ?_)
      rintro e w4 ⟨rfl, k4⟩
      have hB3 := HB0.out.keep (k3.trans k4) (by simp)
      have y0 := (hB3.cell 0).trans (show _ = some (Value.slice none 0 0) from rfl)
      have y1 := hB3.frozen 0
      go_wp2
      (try simp only [Exit.inBlock, Exit.then])
      have hB5 : Blk (w4.setCell ⟨w.heap.size, 0, none⟩ (.slice none 0 0)) w.heap.size 25 #[.slice none 0 0] := hB3.set_ 0 _
      refine bodyPost_ret (v := .tuple #[.agg #[.slice none 0 0], .bool false]) ?_ rfl ?_
      · exact results_cell_tmp rfl _ _ w.heap.size 25 #[.slice none 0 0] (0, 0) _ _ rfl rfl hB5 Try.underlying25 rfl k60
      exact Or.inr ⟨HN.out, rfl, ((hK.trans k3).trans k4).since (own := [w.heap.size]) (Keep.setCell _ _ (by simp) _) (by simp)⟩
    have HN := Lib.hid (show RPk x from ⟨HM.out, hU⟩)
    obtain rfl : y = x := hup.2 hU
    have k61 : (Try.prog.info? 25).map (·.size) = some (#[.slice A (pm y) c] : Array Value).size := by kernel_rfl
    clear hU hup
    go_wp2_with fail
    (with_reducible refine hmay.mono ?_)
    rintro e w3 ⟨rfl, k3⟩
    have q0' := ((HB1.out.keep k3 (by simp)).cell 0).trans (show _ = some (Value.slice A (pm y) c) from rfl)
    clear q0
    go_wp2_with fail
    (with_reducible refine (HKW.out _ k3).mono ?_)
    rintro e w4 ⟨rfl, k4⟩
    have hB3 := HB0.out.keep (k3.trans k4) (by simp)
    have y0 := (hB3.cell 0).trans (show _ = some (Value.slice none 0 0) from rfl)
    have y1 := hB3.frozen 0
    have q1 := ((HB1.out.keep (k3.trans k4) (by simp)).cell 0).trans (show _ = some (Value.slice A (pm y) c) from rfl)
    clear q0'
    go_wp2
    (try simp only [Exit.inBlock, Exit.then])
    have hB5 : Blk (w4.setCell ⟨w.heap.size, 0, none⟩ (.slice A (pm y) c)) w.heap.size 25 #[.slice A (pm y) c] := hB3.set_ 0 _
    refine bodyPost_ret (v := .tuple #[.agg #[.slice A (pm y) c], .bool true]) ?_ rfl ?_
    · exact results_cell_tmp rfl _ _ w.heap.size 25 #[.slice A (pm y) c] (0, 0) _ _ rfl rfl hB5 Try.underlying25 rfl k61
    have ks : Keep [w.heap.size] w4 (w4.setCell ⟨w.heap.size, 0, none⟩ (.slice A (pm y) c)) := Keep.setCell _ _ (by simp) _
    exact Or.inl ⟨HN.out, A, c, rfl, (HI.out.keep (k3.trans k4)).keepO ks (fun a ea => by have := hAB a ea; simp; omega), fun a ea => by have := hAB a ea; omega, ((hK.trans k3).trans k4).since ks (by simp)⟩
  obtain ⟨p, hp⟩ : ∃ p, 4 + 2 * j = p := ⟨_, rfl⟩
  have hp1 : (4 : Int) + 2 * (j : Int) = (p : Int) := by omega
  have hp64 : p < 64 := by omega
  have h3 := and3 x p hx
  have HE := Lib.hid (show iv (pf x) j = .int .i64 ((x / 2 ^ p % 4 : Nat) : Int) by unfold iv pf; rw [hp])
  have hul : x / 2 ^ p % 4 < 4 := Nat.mod_lt _ (by omega)
  generalize x / 2 ^ p % 4 = u at *
  have q0 := (hB1.cell 0).trans (show _ = some (Value.slice A j c) from rfl)
  have hs0 := hB1.lt
  have hnc := hI.nc
  have ka : Keep [] wr (wr.alloc (.cells #[.int .i64 (u : Nat)] 3)) := Keep.alloc _ _
  have hown4 := hown.alloc (.cells #[.int .i64 (u : Nat)] 3)
  have HO := Lib.hid hown4
  have HNW := Lib.hid (one_new6 wr (.int .i64 (u : Nat)) 3)
  have HB1 := Lib.hid (hB1.keep ka (by simp))
  have HB0 := Lib.hid (hB0.keep ka (by simp))
  have HKA := Lib.hid (hK.trans ka)
  clear hp hown hown4 hB0 hB1 hI ka
  go_wp2_with (at_builtin; refine wpList_append_own_at _ rfl (.tmp 14) (.tmp 23) 22 rfl (w.heap.size + 2) 3 ii (.int .i64 0) 1 8 Try.underlying22 hii hz0 hz1 hz2 rfl (by omega) (.slice A j c) j ((List.range j).map (iv (pf x))) rfl HO.out ⟨wr.heap.size, 0, none⟩ 1 1 [.int .i64 (u : Nat)] rfl ?c1 HNW.out ?c3 ?c4 ?c5 ?c6 ?_)
  case c1 => rfl
  case c3 => intro z hz; simp at hz; subst hz; rfl
  case c4 => unfold maxLen; omega
  case c5 => omega
  case c6 => simp; omega
  intro v' w' hown hgrow hnil hblk
  have hk4 := grown_keep HKA.out (show w.heap.size ≤ w.heap.size + 2 by omega) HO.out hgrow
  have hB14 := grown_blk HB1.out (show w.heap.size + 1 < w.heap.size + 2 by omega) HO.out hgrow
  have hB04 := grown_blk HB0.out (show w.heap.size < w.heap.size + 2 by omega) HO.out hgrow
  rw [show (List.range j).map (iv (pf x)) ++ [.int .i64 (u : Nat)] = (List.range (j + 1)).map (iv (pf x)) by rw [← HE.out, List.range_succ, List.map_append]; rfl] at hown
  obtain ⟨A2, c2, rfl, _, _⟩ := owns_ints hown
  have y0 := (hB14.cell 0).trans (show _ = some (Value.slice A j c) from rfl)
  have y1 := hB14.frozen 0
  have HF := Lib.hid (And.intro hown (And.intro hB14 (And.intro hB04 hk4)))
  clear hown hgrow hnil hblk hB14 hB04 hk4 q0
  go_wp2
  go_roundw
  case rel =>
    obtain ⟨f1, f2, f3, f4⟩ := HF.out
    exact ⟨j + 1, .slice A2 (j + 1) c2, by omega, by go_num, ownsRow_setCell_below f1 (by show w.heap.size + 1 < w.heap.size + 2; omega) _, f2.set_ 0 _, f3.far (by simp) _, f4.since (own := [w.heap.size + 1]) (Keep.setCell _ _ (by simp) _) (by simp)⟩
  case measure => simp [intOf]; omega
end Go.Proofs.Ytolighoceecheaa
