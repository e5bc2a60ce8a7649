/-
  ObjectEncodes walked. No conditions but what came in.
-/
import Derived.Test.YtbmnhngkmokklaaOb8
namespace Go.Proofs.Ytbmnhngkmokklaa
open Go.RowKit Go.Flo Go.Bit
set_option maxRecDepth 100000

set_option maxHeartbeats 2000000 in
theorem walk_oenc (w : World) (A B : Option Addr) (n cap nf cb t : Nat) (m : Nat → Nat) (f : Nat → Nat → Int) (k i v0 v1 v2 v3 v4 : Int) (F : Nat → Val) (hK : KRow w A n cap m f) (hV : Vals w B nf cb F) (ht : t < 18446744073709551616) :
    Calls Try.prog 3 #[.slice A n cap, .int .i64 k, .slice B nf cb, .int .u64 t, .int .i64 i, .agg #[.int .i64 v0, .int .i64 v1, .int .u64 v2, .int .u64 v3, .int .i64 v4]] w fun e w' => e = .returned (.bool true) ∧ Keep [] w w' := by
  have kv : Keep [] w (w.alloc (.cells #[.int .i64 v0, .int .i64 v1, .int .u64 v2, .int .u64 v3, .int .i64 v4] 26)) := Keep.alloc _ _
  have hBv := Blk.new w 26 #[.int .i64 v0, .int .i64 v1, .int .u64 v2, .int .u64 v3, .int .i64 v4]
  have hl := light11_any (w.alloc (.cells #[.int .i64 v0, .int .i64 v1, .int .u64 v2, .int .u64 v3, .int .i64 v4] 26)) A n cap m f (hK.keep kv)
  by_cases hL : Light11 n m
  case neg =>
    rw [decide_eq_false hL] at hl
    clear hK hV hL hBv
    go_enter Try.func3, Try.ntmps3
    go_wp2_with fail
    (with_reducible refine hl.mono ?_)
    rintro e w2 ⟨rfl, k2⟩
    go_wp2_with fail
    (with_reducible refine (awake11_any _).mono ?_)
    rintro e w3 ⟨rfl, k3⟩
    go_wp2
    go_ret
    exact ⟨rfl, (kv.trans k2).trans k3⟩
  rw [decide_eq_true hL] at hl
  by_cases h40 : 40 < nf
  · have h40' : (40 : Int) < nf := by omega
    clear hK hV hL hBv
    go_enter Try.func3, Try.ntmps3
    go_wp2_with fail
    (with_reducible refine hl.mono ?_)
    rintro e w2 ⟨rfl, k2⟩
    go_wp2_with fail
    (with_reducible refine (awake11_any _).mono ?_)
    rintro e w3 ⟨rfl, k3⟩
    go_wp2
    go_ret
    exact ⟨rfl, (kv.trans k2).trans k3⟩
  have h40' : ¬ (40 : Int) < nf := by omega
  obtain ⟨wv, hwv⟩ : ∃ wv, wv = w.alloc (.cells #[.int .i64 v0, .int .i64 v1, .int .u64 v2, .int .u64 v3, .int .i64 v4] 26) := ⟨_, rfl⟩
  rw [← hwv] at kv hBv hl
  have h1 := fun W (hk : Keep [] wv W) => enc_any W A B n cap nf cb t m f k F ((hK.keep kv).keep hk) ((hV.keep kv).keep hk) ht
  have h2 := fun W (hk : Keep [] wv W) => renc_any W A B n cap nf cb t m f k F ((hK.keep kv).keep hk) ((hV.keep kv).keep hk) ht
  have h3 := fun W (hk : Keep [] wv W) => fld_any W A n cap m f k i v0 v1 v2 v3 v4 ((hK.keep kv).keep hk)
  have h4 := fun W (hk : Keep [] wv W) => rfld_any W A n cap m f k i v0 v1 v2 v3 v4 ((hK.keep kv).keep hk)
  generalize encE n m f k nf F t = R at *
  generalize fldE n m f k i ⟨v0, v1, v2, v3, v4⟩ = S at *
  obtain ⟨R1, er⟩ := R
  obtain ⟨at', S1, es⟩ := S
  unfold EncPost at h1 h2
  unfold FldPost at h3 h4
  dsimp only at h1 h2 h3 h4
  generalize R1.getD [] = l at *
  generalize S1.getD [] = l' at *
  have hsw := fun W A B c c' (hA : Wd W A l) (hB : Wd W B l) => rsw_same W A B c c' l hA hB
  have hsw' := fun W A B c c' (hA : Wd W A l') (hB : Wd W B l') => rsw_same W A B c c' l' hA hB
  have H1 := Lib.hid h1
  have H2 := Lib.hid h2
  have H3 := Lib.hid h3
  have H4 := Lib.hid h4
  have H5 := Lib.hid hsw
  have H6 := Lib.hid hsw'
  have e1 : (er == er) = true := by simp
  have e2 : (es == es) = true := by simp
  have e3 : (at' == at') = true := by simp
  have HB := Lib.hid hBv
  clear h1 h2 h3 h4 hsw hsw' hK hV hL hBv
  generalize l.length = q at *
  generalize l'.length = q' at *
  go_enter Try.func3, Try.ntmps3
  subst hwv
  go_wp2_with fail
  (with_reducible refine hl.mono ?_)
  rintro e w2 ⟨rfl, k2⟩
  clear hl
  have c1 := H1.out _ k2
  go_wp2_with fail
  (with_reducible refine c1.mono ?_)
  rintro e w3 ⟨A3, c3, rfl, _, _, y3, k3⟩
  clear c1
  have k03 := k2.trans k3
  have c2 := H2.out _ k03
  go_wp2_with fail
  (with_reducible refine c2.mono ?_)
  rintro e w4 ⟨A4, c4, rfl, _, _, y4, k4⟩
  clear c2
  have k04 := k03.trans k4
  have c3 := H3.out _ k04
  have hB4 := HB.out.keep k04 (by simp)
  have d0 := (hB4.cell 0).trans (show _ = some (Value.int .i64 v0) from rfl)
  have d1 := (hB4.cell 1).trans (show _ = some (Value.int .i64 v1) from rfl)
  have d2 := (hB4.cell 2).trans (show _ = some (Value.int .u64 v2) from rfl)
  have d3 := (hB4.cell 3).trans (show _ = some (Value.int .u64 v3) from rfl)
  have d4 := (hB4.cell 4).trans (show _ = some (Value.int .i64 v4) from rfl)
  go_wp2_with fail
  (with_reducible refine c3.mono ?_)
  rintro e w5 ⟨A5, c5, rfl, _, _, y5, k5⟩
  clear c3 hB4 d0 d1 d2 d3 d4
  have k05 := k04.trans k5
  have c4' := H4.out _ k05
  have hB5 := HB.out.keep k05 (by simp)
  have d0 := (hB5.cell 0).trans (show _ = some (Value.int .i64 v0) from rfl)
  have d1 := (hB5.cell 1).trans (show _ = some (Value.int .i64 v1) from rfl)
  have d2 := (hB5.cell 2).trans (show _ = some (Value.int .u64 v2) from rfl)
  have d3 := (hB5.cell 3).trans (show _ = some (Value.int .u64 v3) from rfl)
  have d4 := (hB5.cell 4).trans (show _ = some (Value.int .i64 v4) from rfl)
  go_wp2_with fail
  (with_reducible refine c4'.mono ?_)
  rintro e w6 ⟨A6, c6, rfl, _, _, y6, k6⟩
  clear c4' hB5 d0 d1 d2 d3 d4
  have x3 := ((y3.keep k4).keep k5).keep k6
  have x4 := (y4.keep k5).keep k6
  have x5 := y5.keep k6
  have K6 := Lib.hid (kv.trans (k05.trans k6))
  have s1 := H5.out w6 A3 A4 c3 c4 x3 x4
  have X56 := Lib.hid (And.intro x5 y6)
  clear k2 k3 k4 k5 k6 k03 k04 k05 y3 y4 y5 y6 x3 x4 x5
  go_wp2_with fail
  (with_reducible refine s1.mono ?_)
  rintro e w7 ⟨rfl, d7⟩
  clear s1
  have kd7 : Keep [] w6 w7 := Keep.dr d7
  have s2 := H6.out w7 A5 A6 c5 c6 (X56.out.1.keep kd7) (X56.out.2.keep kd7)
  go_wp2_with fail
  (with_reducible refine s2.mono ?_)
  rintro e w8 ⟨rfl, d8⟩
  have kd8 : Keep [] w7 w8 := Keep.dr d8
  clear s2
  go_wp2_with fail
  (with_reducible refine (awake11_any _).mono ?_)
  rintro e w9 ⟨rfl, k9⟩
  go_wp2
  go_ret
  exact ⟨rfl, (K6.out.trans (kd7.trans kd8)).trans k9⟩
end Go.Proofs.Ytbmnhngkmokklaa
