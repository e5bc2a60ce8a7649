/-
  BitmapPlays, walked. No conditions.
-/
import Derived.Test.YthfcfkdbfjibgaaUnp
import Derived.Test.YthfcfkdbfjibgaaBCounts
namespace Go.Proofs.Ythfcfkdbfjibgaa
open Go.RowKit Go.Flo Go.Bit Go.Bmp
set_option maxRecDepth 100000

/-- The map and the law's own bits, side by side. -/
structure Both (w : World) (L : MLoc) (K g cg : Nat) (B : Nat → Bool) (wr : World) : Prop where
  m : Mp wr L K B
  r : Row wr 4 g K cg (bv B)
  k : Keep [] w wr
theorem Both.dr {w wr W : World} {L : MLoc} {K g cg : Nat} {B : Nat → Bool} (h : Both w L K g cg B wr) (hk : Keep [] wr W) : Both w L K g cg B W := ⟨h.m.keep0 hk, h.r.keep hk (by simp), h.k.trans hk⟩

def PyRel (w : World) (L : MLoc) (K g cg len : Nat) (x : Value) (wr : World) : Prop :=
  ∃ (i : Nat) (B : Nat → Bool), x = .int .i64 i ∧ i ≤ len ∧ i ≤ 80 ∧ Both w L K g cg B wr
def PyRel2 (w : World) (L : MLoc) (K g cg : Nat) (B : Nat → Bool) (x y : Value) (wr : World) : Prop :=
  ∃ j : Nat, j ≤ K ∧ x = .int .i64 (cnt B j : Nat) ∧ y = .int .i64 j ∧ Both w L K g cg B wr
def PyRel3 (w : World) (L : MLoc) (K g cg gp cp : Nat) (B : Nat → Bool) (x : Value) (wr : World) : Prop :=
  ∃ j : Nat, j ≤ nw K ∧ x = .int .i64 j ∧ Both w L K g cg B wr ∧ Row wr 33 gp (nw K) cp (wv B)

theorem Both.set_ {w wr w' : World} {L : MLoc} {K g cg : Nat} {B B2 : Nat → Bool} (h : Both w L K g cg B wr) (hg : g ∉ [L.r]) (hL : ∀ k ∈ [L.r], w.heap.size ≤ k) (hm : Mp w' L K B2) (hk : Keep [L.r] wr w') :
    Mp w' L K B2 ∧ Row w' 4 g K cg (bv B) ∧ Keep [] w w' := ⟨hm, h.r.keep hk hg, h.k.since hk hL⟩

set_option maxHeartbeats 8000000 in
theorem walk_plays (a0 : Int) (A : Option Addr) (len cap : Nat) (f : Nat → Nat) (a2 : Option Addr) (len2 cap2 : Nat) (a3 a4 : Int) (w : World) (hW : Wrd w A len cap f) (h2 : IsBits w a2 len2 cap2) (hf3 : a3 ≤ 9223372036854775807) :
    Calls Try.prog 3 #[.int .i64 a0, .slice A len cap, .slice a2 len2 cap2, .int .i64 a3, .int .i64 a4] w fun e w' => e = .returned (.bool true) ∧ Keep [] w w' := by
  obtain ⟨x, hx⟩ : ∃ x : Int, min a0 400 = x := ⟨_, rfl⟩
  have hx4 : x ≤ 400 := by omega
  have HX := Lib.hid hx
  have ho := of_any w x A len cap f hW
  have hu := fun W (hk : Keep [] w W) => unpack_any W x (by omega) A len cap f (hW.keep hk)
  rw [show clampN x = x.toNat by unfold clampN; omega] at ho
  obtain ⟨K, hK⟩ : ∃ K : Nat, x.toNat = K := ⟨_, rfl⟩
  rw [hK] at ho hu
  have hKl : K ≤ 400 := by omega
  have HU := Lib.hid hu
  clear hx hW hK hu
  generalize ofB K len f = B at *
  obtain ⟨hlc, hcm, hcalls⟩ := h2
  have HC := Lib.hid hcalls
  clear hcalls
  go_enter Try.func3, Try.ntmps3
  go_upto_region 1 with fail
  go_cut [0] (fun s0 wx => s0 = .int .i64 x ∧ w = wx)
  case first =>
    have hx := HX.out
    rcases Int.lt_or_le 400 a0 with c | c
    · have e : x = 400 := by omega
      subst e
      go_wp2_with fail
      go_meet
      exact ⟨rfl, rfl⟩
    · have e : a0 = x := by omega
      subst e
      go_wp2_with fail
      go_meet
      exact ⟨rfl, rfl⟩
  case rest =>
  obtain ⟨rfl, rfl⟩ := hcut
  clear HX
  go_wp2_with fail
  (with_reducible refine ho.mono ?_)
  rintro e w1 ⟨L, rfl, hM, hLm, hLr, hk1⟩
  have hu := HU.out w1 hk1
  have hlt := And.intro hM.blk.lt hM.row.lt
  clear ho HU
  go_wp2_with fail
  (with_reducible refine hu.mono ?_)
  rintro e w2 ⟨g, cg, rfl, hR, hg, hk2⟩
  have HL := Lib.hid (show (∀ k ∈ [L.r], w.heap.size ≤ k) ∧ g ∉ [L.r] ∧ L.m ∉ [g] ∧ L.r ∉ [g] ∧ (∀ k ∈ [g], w.heap.size ≤ k) by
    have := hk1.size
    refine ⟨by intro k hk; rw [List.mem_singleton] at hk; omega, by simp; omega, by simp; omega, by simp; omega, by intro k hk; rw [List.mem_singleton] at hk; omega⟩)
  have hBo : Both w L K g cg B w2 := ⟨hM.keep0 hk2, hR, hk1.trans hk2⟩
  clear hu hlt hLm hLr hM hR hk1 hk2 hg
  go_wp2_with fail
  go_loopw [13] (fun x wr => PyRel w L K g cg len2 x wr) (fun x _ => 80 - (intOf x).toNat)
  case atStart => exact ⟨0, B, rfl, by omega, by omega, hBo⟩
  case round =>
    obtain ⟨i, B, rfl, hi1, hi2, hBo⟩ := hrel
    go_upto_region 7 with fail
    go_cut [38] from 31 to 99 (fun s38 wx => s38 = .bool (decide (i < len2 ∧ i < 80)) ∧ wr = wx)
    case first =>
      by_cases h1 : i < len2
      · have h1' : (i : Int) < (len2 : Int) := by omega
        by_cases h2 : i < 80
        · have h2' : (i : Int) < 80 := by omega
          go_wp2_with fail
          go_meet
          exact ⟨congrArg Value.bool (decide_eq_true ⟨h1, h2⟩).symm, rfl⟩
        · have h2' : decide ((i : Int) < 80) = false := decide_eq_false (by omega)
          go_wp2_with fail
          go_meet
          exact ⟨congrArg Value.bool (decide_eq_false (fun h => h2 h.2)).symm, rfl⟩
      · have h1' : decide ((i : Int) < (len2 : Int)) = false := decide_eq_false (by omega)
        have h1n : decide (i < len2) = false := decide_eq_false (by omega)
        go_wp2_with fail
        go_meet
        exact ⟨congrArg Value.bool (decide_eq_false (fun h => h1 h.1)).symm, rfl⟩
    case rest =>
    obtain ⟨rfl, rfl⟩ := hcut
    by_cases hlt : i < len2 ∧ i < 80
    · rw [decide_eq_true hlt]
      obtain ⟨hl, h80⟩ := hlt
      obtain ⟨b, o, rfl, hb, hat⟩ := HC.out (by omega)
      obtain ⟨x, y, hc⟩ := hat i hl
      clear hat HC
      have hl' : (i : Int) < (len2 : Int) := by omega
      have h80' : (i : Int) < 80 := by omega
      have HOLD := Lib.hid (And.intro hl h80)
      have HBT := Lib.hid (fun W (h : Keep [] w W) => hc.keep h)
      have x0 := hc.x0
      have x1 := hc.x1
      have c0 := (HBT.out wr hBo.k).c0
      have c1 := (HBT.out wr hBo.k).c1
      clear hl h80 hc
      have gs : ∀ W, Keep [] wr W → Calls Try.prog 11 #[.pointer (some ⟨L.m, 0, none⟩), .int .i64 x, .bool y] W fun e w' => e = .returned (.bool (wasZ B K x y)) ∧ (Mp w' L K (updZ B K x y) ∧ Row w' 4 g K cg (bv B) ∧ Keep [] w w') := fun W hk =>
        (mset_any (hBo.dr hk).m x y).mono fun e w' ⟨h1, h2, h3⟩ => ⟨h1, (hBo.dr hk).set_ HL.out.2.1 HL.out.1 h2 h3⟩
      by_cases hin : 0 ≤ x ∧ x < K
      · obtain ⟨k, rfl⟩ := Int.eq_ofNat_of_zero_le hin.1
        cases hbk : B k <;> cases y
        · have hk : k < K := by omega
          have cb := hBo.r.cell hk
          unfold bv at cb
          have e1 : updZ B K (k : Int) false = B := by rw [updZ_nat _ hk, ← hbk, upd_self]
          have e2 : wasZ B K (k : Int) false = false := by rw [wasZ_nat _ hk, hbk]; rfl
          rw [e1, e2] at gs
          rw [hbk] at cb
          have q1 : (0 : Int) ≤ k := by omega
          have q2 : (k : Int) < K := by omega
          have GS := Lib.hid gs
          clear gs e1 e2 hbk
          go_wp2_with fail
          go_quiet (fail)
          go_wp2_with fail
          go_region_with (go_at_call 11; refine (GS.out _ (by repeat (first | (with_reducible refine Keep.trans ?_ (Keep.drew _)) | exact Keep.dr (Dr.drewN _ _)))).mono ?_; rintro e w4 ⟨rfl, hM4, hR4, hK4⟩)
          all_goals
            go_wp2_with fail
            have hl := HOLD.out
            exact ⟨⟨i + 1, B, by go_num, by omega, by omega, ⟨hM4, hR4, hK4⟩⟩, by simp [intOf]; omega⟩
        · have hk : k < K := by omega
          have cb := hBo.r.cell hk
          unfold bv at cb
          have e2 : wasZ B K (k : Int) true = true := by rw [wasZ_nat _ hk, hbk]; rfl
          rw [updZ_nat _ hk, e2] at gs
          rw [hbk] at cb
          have q1 : (0 : Int) ≤ k := by omega
          have q2 : (k : Int) < K := by omega
          have GS := Lib.hid gs
          have HBK := Lib.hid hbk
          clear gs e2 hbk
          generalize hB2 : upd B k true = B2 at *
          have HB2 := Lib.hid hB2
          clear hB2
          go_wp2_with fail
          go_quiet (fail)
          go_wp2_with fail
          go_region_with (go_at_call 11; refine (GS.out _ (by repeat (first | (with_reducible refine Keep.trans ?_ (Keep.drew _)) | exact Keep.dr (Dr.drewN _ _)))).mono ?_; rintro e w4 ⟨rfl, hM4, hR4, hK4⟩)
          all_goals
            have e0 := (HBT.out w4 hK4).c0
            have e1 := (HBT.out w4 hK4).c1
            have eb := hR4.cell hk
            have ez := hR4.frozen k
            unfold bv at eb
            clear c0 c1 cb
            go_wp2_with fail
            go_still_tail 12, (by kernel_rfl)
            change wpList _ _ _ _ _ w4.drew
            have hfin : Both w L K g cg B2 (w4.drew.setCell ⟨g, k, none⟩ (.bool true)) := by
              have hkd : Keep [] w4 w4.drew := Keep.drew w4
              have hks : Keep [g] w4.drew (w4.drew.setCell ⟨g, k, none⟩ (.bool true)) := Keep.setCell _ _ (by simp) _
              refine ⟨(hM4.keep0 hkd).keep hks HL.out.2.2.1 HL.out.2.2.2.1, ?_, (hK4.trans hkd).since hks HL.out.2.2.2.2⟩
              rw [← HB2.out]
              exact (hR4.keep hkd (by simp)).setB k true
            have HFIN := Lib.hid hfin
            clear hfin hM4 hR4 hK4
            have f1 : w4.drew.cell? ⟨g, k, none⟩ = some (.bool false) := by rw [← HBK.out]; exact eb
            have f2 : w4.drew.frozen? ⟨g, k, none⟩ = false := ez
            generalize w4.drew = w5 at *
            go_wp2_with fail
            have hl := HOLD.out
            exact ⟨⟨i + 1, B2, by go_num, by omega, by omega, HFIN.out⟩, by simp [intOf]; omega⟩
        · have hk : k < K := by omega
          have cb := hBo.r.cell hk
          unfold bv at cb
          have e2 : wasZ B K (k : Int) false = true := by rw [wasZ_nat _ hk, hbk]; rfl
          rw [updZ_nat _ hk, e2] at gs
          rw [hbk] at cb
          have q1 : (0 : Int) ≤ k := by omega
          have q2 : (k : Int) < K := by omega
          have GS := Lib.hid gs
          have HBK := Lib.hid hbk
          clear gs e2 hbk
          generalize hB2 : upd B k false = B2 at *
          have HB2 := Lib.hid hB2
          clear hB2
          go_wp2_with fail
          go_quiet (fail)
          go_wp2_with fail
          go_region_with (go_at_call 11; refine (GS.out _ (by repeat (first | (with_reducible refine Keep.trans ?_ (Keep.drew _)) | exact Keep.dr (Dr.drewN _ _)))).mono ?_; rintro e w4 ⟨rfl, hM4, hR4, hK4⟩)
          all_goals
            have e0 := (HBT.out w4 hK4).c0
            have e1 := (HBT.out w4 hK4).c1
            have eb := hR4.cell hk
            have ez := hR4.frozen k
            unfold bv at eb
            clear c0 c1 cb
            go_wp2_with fail
            go_still_tail 12, (by kernel_rfl)
            change wpList _ _ _ _ _ w4.drew
            have hfin : Both w L K g cg B2 (w4.drew.setCell ⟨g, k, none⟩ (.bool false)) := by
              have hkd : Keep [] w4 w4.drew := Keep.drew w4
              have hks : Keep [g] w4.drew (w4.drew.setCell ⟨g, k, none⟩ (.bool false)) := Keep.setCell _ _ (by simp) _
              refine ⟨(hM4.keep0 hkd).keep hks HL.out.2.2.1 HL.out.2.2.2.1, ?_, (hK4.trans hkd).since hks HL.out.2.2.2.2⟩
              rw [← HB2.out]
              exact (hR4.keep hkd (by simp)).setB k false
            have HFIN := Lib.hid hfin
            clear hfin hM4 hR4 hK4
            have f1 : w4.drew.cell? ⟨g, k, none⟩ = some (.bool true) := by rw [← HBK.out]; exact eb
            have f2 : w4.drew.frozen? ⟨g, k, none⟩ = false := ez
            generalize w4.drew = w5 at *
            go_wp2_with fail
            have hl := HOLD.out
            exact ⟨⟨i + 1, B2, by go_num, by omega, by omega, HFIN.out⟩, by simp [intOf]; omega⟩
        · have hk : k < K := by omega
          have cb := hBo.r.cell hk
          unfold bv at cb
          have e1 : updZ B K (k : Int) true = B := by rw [updZ_nat _ hk, ← hbk, upd_self]
          have e2 : wasZ B K (k : Int) true = false := by rw [wasZ_nat _ hk, hbk]; rfl
          rw [e1, e2] at gs
          rw [hbk] at cb
          have q1 : (0 : Int) ≤ k := by omega
          have q2 : (k : Int) < K := by omega
          have GS := Lib.hid gs
          clear gs e1 e2 hbk
          go_wp2_with fail
          go_quiet (fail)
          go_wp2_with fail
          go_region_with (go_at_call 11; refine (GS.out _ (by repeat (first | (with_reducible refine Keep.trans ?_ (Keep.drew _)) | exact Keep.dr (Dr.drewN _ _)))).mono ?_; rintro e w4 ⟨rfl, hM4, hR4, hK4⟩)
          all_goals
            go_wp2_with fail
            have hl := HOLD.out
            exact ⟨⟨i + 1, B, by go_num, by omega, by omega, ⟨hM4, hR4, hK4⟩⟩, by simp [intOf]; omega⟩
      · rcases Int.lt_or_le x 0 with hneg | hpos
        · have e1 : updZ B K x y = B := by unfold updZ; rw [if_neg (by omega)]
          have e2 : wasZ B K x y = false := by unfold wasZ; rw [decide_eq_false (by omega), Bool.false_and]
          rw [e1, e2] at gs
          have q1 : decide ((0 : Int) ≤ x) = false := decide_eq_false (by omega)
          have GS := Lib.hid gs
          clear gs e1 e2
          go_wp2_with fail
          go_quiet (fail)
          go_wp2_with fail
          go_region_with (go_at_call 11; refine (GS.out _ (by repeat (first | (with_reducible refine Keep.trans ?_ (Keep.drew _)) | exact Keep.dr (Dr.drewN _ _)))).mono ?_; rintro e w4 ⟨rfl, hM4, hR4, hK4⟩)
          all_goals
            go_wp2_with fail
            have hl := HOLD.out
            exact ⟨⟨i + 1, B, by go_num, by omega, by omega, ⟨hM4, hR4, hK4⟩⟩, by simp [intOf]; omega⟩
        · have e1 : updZ B K x y = B := by unfold updZ; rw [if_neg (by omega)]
          have e2 : wasZ B K x y = false := by unfold wasZ; rw [decide_eq_false (by omega), Bool.false_and]
          rw [e1, e2] at gs
          have q1 : (0 : Int) ≤ x := by omega
          have q2 : decide (x < (K : Int)) = false := decide_eq_false (by omega)
          have GS := Lib.hid gs
          clear gs e1 e2
          go_wp2_with fail
          go_quiet (fail)
          go_wp2_with fail
          go_region_with (go_at_call 11; refine (GS.out _ (by repeat (first | (with_reducible refine Keep.trans ?_ (Keep.drew _)) | exact Keep.dr (Dr.drewN _ _)))).mono ?_; rintro e w4 ⟨rfl, hM4, hR4, hK4⟩)
          all_goals
            go_wp2_with fail
            have hl := HOLD.out
            exact ⟨⟨i + 1, B, by go_num, by omega, by omega, ⟨hM4, hR4, hK4⟩⟩, by simp [intOf]; omega⟩
    · rw [decide_eq_false hlt]
      clear hlt HC
      go_wp2_with fail
      generalize wr = wo at *
      go_loopw [15, 102] (fun x y wr => PyRel2 w L K g cg B x y wr) (fun _ y _ => K - (intOf y).toNat)
      case atStart => exact ⟨0, by omega, rfl, rfl, hBo⟩
      case round =>
        obtain ⟨j, hj, rfl, rfl, hB3⟩ := hrel
        clear hBo
        have hcl := cnt_le B j
        by_cases hlt : j < K
        · have cb := hB3.r.cell hlt
          unfold bv at cb
          have gg := mget_nat hB3.m j hlt
          have hcs : cnt B (j + 1) = cnt B j + (B j).toNat := rfl
          have HCS := Lib.hid hcs
          clear hcs
          have hlt' : (j : Int) < (K : Int) := by omega
          cases hbj : B j
          · rw [hbj] at cb gg
            have HBJ := Lib.hid hbj
            clear hbj
            go_wp2_with fail
            (with_reducible refine gg.mono ?_)
            rintro e w6 ⟨rfl, hd⟩
            have hB4 := hB3.dr (Keep.dr hd)
            clear gg hd hB3
            go_wp2_with fail
            refine ⟨⟨j + 1, by omega, ?_, by go_num, hB4⟩, by simp [intOf]; omega⟩
            rw [HCS.out, HBJ.out]
            rfl
          · rw [hbj] at cb gg
            have HBJ := Lib.hid hbj
            clear hbj
            go_wp2_with fail
            (with_reducible refine gg.mono ?_)
            rintro e w6 ⟨rfl, hd⟩
            have hB4 := hB3.dr (Keep.dr hd)
            clear gg hd hB3
            go_wp2_with fail
            refine ⟨⟨j + 1, by omega, ?_, by go_num, hB4⟩, by simp [intOf]; omega⟩
            rw [HCS.out, HBJ.out]
            go_num
        · have hjK : j = K := by omega
          subst hjK
          have hgp := pack_any wr g cg j B (by omega) hB3.r hB3.m.tidy
          have hnw := nw_le hB3.m.le
          go_wp2_with fail
          (with_reducible refine hgp.mono ?_)
          rintro e w6 ⟨gp, cp, rfl, hP, _, hk6⟩
          have hB4 := hB3.dr hk6
          clear hgp hk6 hB3
          go_wp2_with fail
          generalize wr = wo2 at *
          go_loopw [120] (fun x wr => PyRel3 w L j g cg gp cp B x wr) (fun x _ => nw j - (intOf x).toNat)
          case atStart => exact ⟨0, by omega, rfl, hB4, hP⟩
          case round =>
            obtain ⟨l, hl, rfl, hB5, hP5⟩ := hrel
            clear hB4 hP
            by_cases hlt : l < nw j
            · have cp1 := hP5.cell hlt
              unfold wv at cp1
              have gw1 := mword_any hB5.m l
              rw [gw_nat] at gw1
              have hlt' : (l : Int) < (nw j : Int) := by omega
              have q : (((pack B l : Nat) : Int) != ((pack B l : Nat) : Int)) = false := by simp
              go_wp2_with fail
              (with_reducible refine gw1.mono ?_)
              rintro e w7 ⟨rfl, rfl⟩
              clear gw1
              go_wp2_with fail
              exact ⟨⟨l + 1, by omega, by go_num, hB5, hP5⟩, by simp [intOf]; omega⟩
            · have hlj : l = nw j := by omega
              subst hlj
              have z1 := mlen_any hB5.m
              have z2 := mcount_any hB5.m
              have z3 := mget_any hB5.m (-1)
              have e3 : gb B (-1) = false := by simp [gb]
              rw [e3] at z3
              clear e3
              go_wp2_with fail
              (with_reducible refine z1.mono ?_)
              rintro e w7 ⟨rfl, rfl⟩
              go_wp2_with fail
              (with_reducible refine z2.mono ?_)
              rintro e w7 ⟨rfl, rfl⟩
              go_wp2_with fail
              (with_reducible refine z3.mono ?_)
              rintro e w7 ⟨rfl, hd⟩
              have hB6 := hB5.dr (Keep.dr hd)
              have hP6 := hP5.keep (own := []) (Keep.dr hd) (by simp)
              clear z1 z2 z3 hd hB5 hP5
              have z4 := mget_any hB6.m j
              have e4 : gb B (j : Int) = false := by rw [gb_nat]; exact hB6.m.tidy j (Nat.le_refl _)
              rw [e4] at z4
              clear e4
              go_wp2_with fail
              (with_reducible refine z4.mono ?_)
              rintro e w8 ⟨rfl, hd⟩
              have hB7 := hB6.dr (Keep.dr hd)
              have hP7 := hP6.keep (own := []) (Keep.dr hd) (by simp)
              clear z4 hd hB6 hP6
              have z5 := mfirst_any hB7.m a3 a4 true hf3
              have z6 := first_any w8 g cg j B (by omega) hB7.r a3 a4 true hf3
              have z7 := mfirst_any hB7.m a3 a4 false hf3
              have z8 := first_any w8 g cg j B (by omega) hB7.r a3 a4 false hf3
              generalize fst B a3.toNat (min a4 (j : Int)).toNat true = X1 at *
              generalize fst B a3.toNat (min a4 (j : Int)).toNat false = X2 at *
              go_wp2_with fail
              (with_reducible refine z5.mono ?_)
              rintro e w9 ⟨rfl, rfl⟩
              go_wp2_with fail
              (with_reducible refine z6.mono ?_)
              rintro e w9 ⟨rfl, rfl⟩
              go_wp2_with fail
              (with_reducible refine z7.mono ?_)
              rintro e w9 ⟨rfl, rfl⟩
              go_wp2_with fail
              (with_reducible refine z8.mono ?_)
              rintro e w9 ⟨rfl, rfl⟩
              clear z5 z6 z7 z8
              have z9 := mwords_any hB7.m
              go_wp2_with fail
              (with_reducible refine z9.mono ?_)
              rintro e w9 ⟨gq, cq, rfl, hQ, _, hk9⟩
              have hB8 := hB7.dr hk9
              have hP8 := hP7.keep hk9 (by simp)
              clear z9 hk9 hB7 hP7
              have y1 := same_wv w9 gq cq gp cp (nw j) B (by omega) hQ hP8
              go_wp2_with fail
              (with_reducible refine y1.mono ?_)
              rintro e wa ⟨rfl, hd⟩
              have hB9 := hB8.dr (Keep.dr hd)
              have hfar : pack B (nw j) = 0 := hB9.m.far (Nat.le_refl _)
              have y2 := mword_any hB9.m (nw j : Nat)
              rw [gw_nat, hfar] at y2
              have y2 : Calls Try.prog 14 #[.pointer (some ⟨L.m, 0, none⟩), .int .i64 (nw j : Nat)] wa fun e w' => e = .returned (.int .u64 0) ∧ wa = w' := y2
              have y3 : Calls Try.prog 14 #[.pointer (some ⟨L.m, 0, none⟩), .int .i64 (-1)] wa fun e w' => e = .returned (.int .u64 0) ∧ wa = w' := mword_any hB9.m (-1)
              clear y1 hd hQ hP8 hB8 hfar
              go_wp2_with fail
              (with_reducible refine y2.mono ?_)
              rintro e wb ⟨rfl, rfl⟩
              go_wp2_with fail
              (with_reducible refine y3.mono ?_)
              rintro e wb ⟨rfl, rfl⟩
              clear y2 y3
              go_wp2_with fail
              (with_reducible refine (awake5_any wa).mono ?_)
              rintro e wb ⟨rfl, hkb⟩
              go_wp2
              go_ret
              exact ⟨rfl, hB9.k.trans hkb⟩
end Go.Proofs.Ythfcfkdbfjibgaa
