/-
  The library's functions on decimals, on words in hexadecimal and on texts many times over; a graph's values as texts, the program's and the document's twin's: what each returns. Conditions: what the library's tables hold.
-/
import Derived.Test.YtigclopkoolocaaDoorShf
import Derived.Test.YtigclopkoolocaaDoorTx0
import Derived.Test.YtigclopkoolocaaDoorUHex
import Derived.Test.YtigclopkoolocaaDoorGrow
import Derived.Test.YtigclopkoolocaaDoorArg12
import Derived.Test.YtigclopkoolocaaDoorGd12
import Derived.Lib.AppendIntMem
import Derived.Lib.ItoaLen
import Derived.Lib.SmallJoins
import Derived.Deep.RegionHeld3
import Derived.ChangeKeysEq
namespace Go.Flo
open Go.RowKit Go.Lib

theorem keep_of {w w' : World} (h : Below w.heap.size w w') : Keep [] w w' := ⟨h.os, h.tape, h.output, h.size, fun k hk _ => h.block k hk⟩

theorem str_beq (a b : ByteArray) : (a.toList == b.toList) = decide (a = b) := by
  have e : a.toList = b.toList ↔ a = b := by
    rw [ByteArray.toList_eq, ByteArray.toList_eq]
    exact ⟨fun h => ByteArray.ext (Array.toList_inj.1 h), fun h => by rw [h]⟩
  rw [Bool.eq_iff_iff]
  simp [e]
end Go.Flo
namespace Go.Proofs.YtigclopkoolocaaDoor
open Go.RowKit Go.Flo Go.Lib
set_option maxRecDepth 100000

/-- What the library's tables hold. -/
structure Tabs (w : World) : Prop where
  t64 : w.cell? ⟨3, 15, none⟩ = some (.int .u8 4)
  pow : Lib.TabIs Tryd.prog w "internal/strconv.uint64pow10" .u64 Lib.pow10Tab

theorem Tabs.lt {w : World} (h : Tabs w) : 3 < w.heap.size := World.block_lt_of_cell? w _ h.t64

theorem Tabs.keep {w w' : World} (h : Tabs w) (hk : Keep [] w w') : Tabs w' :=
  ⟨(hk.cell (p := ⟨_, _, none⟩) (World.block_lt_of_cell? w _ h.t64) (by simp)).trans h.t64, Lib.tabBelow_of_tabIs h.pow w' (hk.below (Nat.le_refl _) (by simp))⟩

theorem fint_any (n : Int) (h0 : -9223372036854775808 ≤ n) (h1 : n ≤ 9223372036854775807) (w : World) (hT : Tabs w) :
    Calls Tryd.prog 45 #[.int .i64 n, .int .i64 10] w fun e w' => e = .returned (.string (bs (itoa n))) ∧ Keep [] w w' :=
  (Tryd.strconv_FormatInt_10 n h0 h1 w hT.pow).mono fun _ _ ⟨he, k, os, hw⟩ => ⟨he, hw ▸ keep_of (Lib.below_grow _ w (Nat.le_refl _) k os)⟩

theorem itoa_any (n : Int) (h0 : -9223372036854775808 ≤ n) (h1 : n ≤ 9223372036854775807) (w : World) (hT : Tabs w) :
    Calls Tryd.prog 27 #[.int .i64 n] w fun e w' => e = .returned (.string (bs (itoa n))) ∧ Keep [] w w' :=
  (Tryd.strconv_Itoa n h0 h1 w hT.pow).mono fun _ _ ⟨he, k, os, hw⟩ => ⟨he, hw ▸ keep_of (Lib.below_grow _ w (Nat.le_refl _) k os)⟩

/-- So many noughts. -/
def nilsB (k : Nat) : ByteArray := bs (List.replicate k 48)

theorem repeat_nils (k : Nat) : Lib.repeatL [48] k = List.replicate k (48 : UInt8) := by
  induction k with
  | zero => rfl
  | succ k ih => rw [List.replicate_succ, ← ih]; rfl

theorem rep_any (k : Nat) (hk : k ≤ 16) (w : World) :
    Calls Tryd.prog 54 #[.string { data := #[48] }, .int .i64 k] w fun e w' => e = .returned (.string (nilsB k)) ∧ Keep [] w w' :=
  (Tryd.strings_Repeat { data := #[48] } k w (by omega) (by show 1 * k ≤ _; omega)).mono fun _ _ ⟨he, hw⟩ => ⟨by rw [he, show ({ data := #[48] } : ByteArray).data.toList = [48] from rfl, repeat_nils]; rfl, keep_of hw⟩

theorem pads (x : Nat) : ∀ (k m : Nat), m + k ≤ 16 → x < 16 ^ m → nilsB k ++ lastB x m = lastB x (m + k)
  | 0, m, _, _ => by
    show bs [] ++ lastB x m = lastB x m
    rw [← bs_data (lastB x m), bs_append]; rfl
  | k + 1, m, h, hx => by
    have h1 : nilsB (k + 1) = nilsB k ++ { data := #[48] } := by
      show bs (List.replicate (k + 1) 48) = bs (List.replicate k 48) ++ bs [48]
      rw [bs_append, List.replicate_succ']
    rw [h1, ByteArray.append_assoc, pad_step x m (by omega) hx, pads x k (m + 1) (by omega) (Nat.lt_of_lt_of_le hx (Nat.pow_le_pow_right (by decide) (by omega))), show m + 1 + k = m + (k + 1) by omega]

def WTPost (x : Nat) (w : World) (e : Ending) (w' : World) : Prop := e = .returned (.string (lastB x 16)) ∧ Keep [] w w'

theorem wordText_any (x : Nat) (hx : x < 18446744073709551616) (w : World) (hT : Tabs w) : Calls Tryd.prog 46 #[.int .u64 x] w (WTPost x w) := by
  have hF := format_16 x w hx hT.t64 hT.lt
  have hP := pads x
  clear hx hT
  unfold WTPost
  obtain ⟨Z, hZ⟩ : ∃ Z, lastB x 16 = Z := ⟨_, rfl⟩
  rw [hZ]
  have HP := Lib.hid (And.intro hP hZ)
  clear hP hZ
  go_enter Tryd.func46, Tryd.ntmps46
  go_wp2_with fail
  (with_reducible refine hF.mono ?_)
  rintro e w1 ⟨s, rfl, n, h1, h16, hlt, hs, hb⟩
  have he : nilsB (16 - n) ++ s = Z := by
    rw [hs, HP.out.1 (16 - n) n (by omega) hlt, show n + (16 - n) = 16 by omega]
    exact HP.out.2
  have hz : s.size = n := by rw [hs]; exact lastB_size x n h16
  have hz2 : (nilsB (16 - n)).size = 16 - n := by
    show (List.replicate (16 - n) (48 : UInt8)).toArray.size = 16 - n
    simp
  obtain ⟨k, hk⟩ : ∃ k, 16 - n = k := ⟨_, rfl⟩
  have hk2 : (16 : Int) - (n : Int) = (k : Nat) := by omega
  have hr := rep_any k (by omega) w1
  rw [hk] at he hz2
  have hk16 : k ≤ 16 := by omega
  have hw : IntKind.i64.wrap (k : Int) = (k : Int) := by rw [IntKind.wrap_i64]; omega
  have HB := Lib.hid (keep_of hb)
  have hw3 : (16 : Int) - (n : Nat) = (k : Int) := hk2
  have hkn : ¬ 9223372036854775807 < k + n := by omega
  clear hs hlt hb hk h1 h16 hk2 hw hF
  generalize nilsB k = Y at *
  go_wp2_with fail
  (with_reducible refine hr.mono ?_)
  rintro e w2 ⟨rfl, k2⟩
  go_wp2
  go_ret
  exact ⟨rfl, HB.out.trans k2⟩

def VTPost (v : Val) (w : World) (e : Ending) (w' : World) : Prop := e = .returned (.string (bs (valT v))) ∧ Keep [] w w'

theorem bs_cons (c : UInt8) (l : List UInt8) : ({ data := #[c] } : ByteArray) ++ bs l = bs (c :: l) := by
  show bs [c] ++ bs l = _
  rw [bs_append]; rfl

set_option maxHeartbeats 4000000 in
theorem valueText_any (K n p q r : Int) (hv : VOk ⟨K, n, p, q, r⟩) (hK0 : 0 ≤ K) (hK3 : K ≤ 3) (w : World) (hT : Tabs w) :
    Calls Tryd.prog 28 #[.agg #[.int .i64 K, .int .i64 n, .int .u64 p, .int .u64 q, .int .i64 r]] w (VTPost ⟨K, n, p, q, r⟩ w) := by
  obtain ⟨⟨n0, n1⟩, ⟨p0, p1⟩, ⟨q0, q1⟩, r0, r1⟩ := hv
  dsimp only at *
  have hp : p.toNat < 18446744073709551616 := by omega
  have hq : q.toNat < 18446744073709551616 := by omega
  have hpp : (p.toNat : Int) = p := by omega
  have hqq : (q.toNat : Int) = q := by omega
  have ka : Keep [] w (w.alloc (.cells #[.int .i64 K, .int .i64 n, .int .u64 p, .int .u64 q, .int .i64 r] 36)) := Keep.alloc _ _
  have hFI := fun W (hk : Keep [] w W) => fint_any n n0 n1 W (hT.keep hk)
  have hIT := fun W (hk : Keep [] w W) => itoa_any r r0 r1 W (hT.keep hk)
  have hW1 := fun W (hk : Keep [] w W) => wordText_any p.toNat hp W (hT.keep hk)
  have hW2 := fun W (hk : Keep [] w W) => wordText_any q.toNat hq W (hT.keep hk)
  have hJ := text_join p.toNat q.toNat
  unfold WTPost at hW1 hW2
  rw [hpp] at hW1
  rw [hqq] at hW2
  have hzS : (bs (itoa r)).size ≤ 21 := Lib.itoa_length_le r r0 r1
  have hz1 : (lastB p.toNat 16).size = 16 := lastB_size _ _ (by decide)
  have hz2 : (lastB q.toNat 16).size = 16 := lastB_size _ _ (by decide)
  unfold VTPost valT
  dsimp only
  generalize textB p.toNat q.toNat = S at *
  generalize lastB p.toNat 16 = S1 at *
  generalize lastB q.toNat 16 = S2 at *
  clear n0 n1 p0 p1 q0 q1 r0 r1 hp hq hpp hqq hT
  rcases (show K = 0 ∨ K = 1 ∨ K = 2 ∨ K = 3 by omega) with rfl | rfl | rfl | rfl
  · go_enter Tryd.func28, Tryd.ntmps28
    go_wp2
    go_ret
    exact ⟨rfl, ka⟩
  · have HH := Lib.hid (And.intro hFI ka)
    clear hFI hIT hW1 hW2 hJ ka
    rw [if_neg (by decide), if_pos rfl]
    go_enter Tryd.func28, Tryd.ntmps28
    go_wp2_with fail
    (with_reducible refine (HH.out.1 _ HH.out.2).mono ?_)
    rintro e w1 ⟨rfl, k1⟩
    go_wp2
    go_ret
    exact ⟨rfl, HH.out.2.trans k1⟩
  · have hS : { data := #[99] } ++ S1 ++ { data := #[44] } ++ S2 = bs (99 :: S.data.toList) := by
      rw [← bs_cons, bs_data, ← hJ]
      simp only [ByteArray.append_assoc]
    have HH := Lib.hid (And.intro ka (And.intro hW1 hW2))
    have HS := Lib.hid hS
    have hB := Blk.new w 36 #[.int .i64 2, .int .i64 n, .int .u64 p, .int .u64 q, .int .i64 r]
    have f2 := (hB.cell 2).trans (show _ = some (Value.int .u64 p) from rfl)
    have f3 := (hB.cell 3).trans (show _ = some (Value.int .u64 q) from rfl)
    have HB := Lib.hid hB
    clear hFI hIT hW1 hW2 hJ ka hS hB
    rw [if_neg (by decide), if_neg (by decide), if_pos rfl]
    generalize bs (99 :: S.data.toList) = Z at *
    go_enter Tryd.func28, Tryd.ntmps28
    go_wp2_with fail
    have q2 := fun x => KW.cell f2 x
    have q3 := fun x => KW.cell f3 x
    have HA := Lib.hid (fun x : KW (w.alloc (.cells #[.int .i64 2, .int .i64 n, .int .u64 p, .int .u64 q, .int .i64 r] 36)) => KW.call (HH.out.2.1 x.w (HH.out.1.trans x.hk)))
    have HC := Lib.hid (fun x : KW (w.alloc (.cells #[.int .i64 2, .int .i64 n, .int .u64 p, .int .u64 q, .int .i64 r] 36)) => KW.call (HH.out.2.2 x.w (HH.out.1.trans x.hk)))
    clear f2 f3
    refine wp_region_grow (by kernel_rfl) (by kernel_rfl) ?_
    repeat (first | go_big_quiet_skip | (go_big_quiet_want; go_big_quiet_op; first | go_big_quiet_on | go_big_quiet_call ((first | (go_at_call 46; with_reducible exact HA.out _) | (go_at_call 46; with_reducible exact HC.out _)))))
    refine wpQuiet_nil ?_
    rintro _ ⟨x, rfl⟩
    go_wp2
    go_ret
    exact ⟨congrArg (fun s => Ending.returned (Value.string s)) HS.out, HH.out.1.trans x.hk⟩
  · have HH := Lib.hid (And.intro hIT ka)
    have HS := Lib.hid (bs_cons 35 (itoa r))
    clear hFI hIT hW1 hW2 hJ ka
    rw [if_neg (by decide), if_neg (by decide), if_neg (by decide), if_pos rfl]
    generalize bs (35 :: itoa r) = Z at *
    generalize bs (itoa r) = Y at *
    go_enter Tryd.func28, Tryd.ntmps28
    go_wp2_with fail
    (with_reducible refine (HH.out.1 _ HH.out.2).mono ?_)
    rintro e w1 ⟨rfl, k1⟩
    go_wp2
    go_ret
    exact ⟨congrArg (fun s => Ending.returned (Value.string s)) HS.out, HH.out.2.trans k1⟩

theorem rvalueText_any (K n p q r : Int) (hv : VOk ⟨K, n, p, q, r⟩) (hK0 : 0 ≤ K) (hK3 : K ≤ 3) (w : World) (hT : Tabs w) :
    Calls Tryd.prog 31 #[.agg #[.int .i64 K, .int .i64 n, .int .u64 p, .int .u64 q, .int .i64 r]] w (VTPost ⟨K, n, p, q, r⟩ w) := by
  obtain ⟨⟨n0, n1⟩, ⟨p0, p1⟩, ⟨q0, q1⟩, r0, r1⟩ := hv
  dsimp only at *
  have hp : p.toNat < 18446744073709551616 := by omega
  have hq : q.toNat < 18446744073709551616 := by omega
  have ka : Keep [] w (w.alloc (.cells #[.int .i64 K, .int .i64 n, .int .u64 p, .int .u64 q, .int .i64 r] 36)) := Keep.alloc _ _
  have hFI := fun W (hk : Keep [] w W) => fint_any n n0 n1 W (hT.keep hk)
  have hIT := fun W (hk : Keep [] w W) => itoa_any r r0 r1 W (hT.keep hk)
  have hOF := fun W => rof_any p q W
  have hTX := fun W (hk : Keep [] w W) => rtext_any p.toNat q.toNat W (by have := hp; omega) (by have := hq; omega) (hT.keep hk).t64 (hT.keep hk).lt
  unfold RTPost at hTX
  have hzS : (textB p.toNat q.toNat).size = 33 := textB_size _ _
  have hzR : (bs (itoa r)).size ≤ 21 := Lib.itoa_length_le r r0 r1
  unfold VTPost valT
  dsimp only
  generalize textB p.toNat q.toNat = S at *
  clear n0 n1 p0 p1 q0 q1 r0 r1 hp hq hT
  rcases (show K = 0 ∨ K = 1 ∨ K = 2 ∨ K = 3 by omega) with rfl | rfl | rfl | rfl
  · go_enter Tryd.func31, Tryd.ntmps31
    go_wp2
    go_ret
    exact ⟨rfl, ka⟩
  · have HH := Lib.hid (And.intro hFI ka)
    clear hFI hIT hOF hTX ka
    rw [if_neg (by decide), if_pos rfl]
    go_enter Tryd.func31, Tryd.ntmps31
    go_wp2_with fail
    (with_reducible refine (HH.out.1 _ HH.out.2).mono ?_)
    rintro e w1 ⟨rfl, k1⟩
    go_wp2
    go_ret
    exact ⟨rfl, HH.out.2.trans k1⟩
  · have HS := Lib.hid (show { data := #[99] } ++ S = bs (99 :: S.data.toList) by rw [← bs_cons, bs_data])
    have HH := Lib.hid (And.intro hTX ka)
    have HO := Lib.hid hOF
    clear hFI hIT hOF hTX ka
    rw [if_neg (by decide), if_neg (by decide), if_pos rfl]
    generalize bs (99 :: S.data.toList) = Z at *
    go_enter Tryd.func31, Tryd.ntmps31
    go_wp2_with fail
    (with_reducible refine (HO.out _).mono ?_)
    rintro e w1 ⟨rfl, rfl⟩
    go_wp2_with fail
    (with_reducible refine (HH.out.1 _ HH.out.2).mono ?_)
    rintro e w1 ⟨rfl, k1⟩
    go_wp2
    go_ret
    exact ⟨congrArg (fun s => Ending.returned (Value.string s)) HS.out, HH.out.2.trans (keep_of k1)⟩
  · have HH := Lib.hid (And.intro hIT ka)
    have HS := Lib.hid (bs_cons 35 (itoa r))
    clear hFI hIT hOF hTX ka
    rw [if_neg (by decide), if_neg (by decide), if_neg (by decide), if_pos rfl]
    generalize bs (35 :: itoa r) = Z at *
    generalize bs (itoa r) = Y at *
    go_enter Tryd.func31, Tryd.ntmps31
    go_wp2_with fail
    (with_reducible refine (HH.out.1 _ HH.out.2).mono ?_)
    rintro e w1 ⟨rfl, k1⟩
    go_wp2
    go_ret
    exact ⟨congrArg (fun s => Ending.returned (Value.string s)) HS.out, HH.out.2.trans k1⟩
end Go.Proofs.YtigclopkoolocaaDoor
