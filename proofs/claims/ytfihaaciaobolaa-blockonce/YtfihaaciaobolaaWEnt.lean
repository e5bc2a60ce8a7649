/-
  BlockEntries walked. No conditions but what came in.
-/
import Derived.Test.YtfihaaciaobolaaTb9
import Derived.Deep.QuietTactic
import Derived.LoopN
namespace Go.Proofs.Ytfihaaciaobolaa
open Go.RowKit Go.Flo Go.Bit Go.Bmp
set_option maxRecDepth 100000

/-- What a law has got, and the table. -/
def GotRel (w5 : World) (L : TLoc) (C : Cf) (U : Nat → Bool) (len m : Nat) (x y : Value) (wr : World) : Prop :=
  ∃ (i c : Nat) (T : Nat → Bool) (l : Nat → Int), i ≤ len ∧ x = .int .i64 i ∧ c ≤ i ∧ c ≤ m ∧ Tbl wr L C U T ∧ Got C U T l c ∧ wr.ownsRow w5.heap.size 3 1 y c (intR l c) ∧ Keep L.own w5 wr

def ChgRel (w12 : World) (N : Nat → Bool) (K : Nat) (x y : Value) (wr : World) : Prop :=
  ∃ i : Nat, i ≤ K ∧ x = .int .i64 i ∧ y = .int .i64 (enC N i : Nat) ∧ Dr w12 wr

theorem dr_cell {w w' : World} {a : Addr} {v : Value} (d : Dr w w') (h : w.cell? a = some v) : w'.cell? a = some v := by
  obtain ⟨n, rfl⟩ := d
  exact h

set_option maxHeartbeats 4000000 in
theorem walk_entries (w : World) (a0 a1 a2 a3 : Int) (A : Option Addr) (len cap : Nat) (f : Nat → Nat) (hW : Wrd w A len cap f) (A2 : Option Addr) (len2 cap2 : Nat) (f2 : Nat → Int) (hI : Ints w A2 len2 cap2 f2) :
    Calls Try.prog 8 #[.agg #[.int .i64 a0, .int .i64 a1, .int .i64 a2, .int .i64 a3], .slice A len cap, .slice A2 len2 cap2] w fun e w' => e = .returned (.bool true) ∧ Keep [] w w' := by
  obtain ⟨i0, hi0, hz0, hz1, hz2⟩ := info_parts parts3
  have kb : Keep [] w (w.alloc (.cells #[.int .i64 a0, .int .i64 a1, .int .i64 a2, .int .i64 a3] 22)) := Keep.alloc _ _
  have hbx := Blk.new w 22 #[.int .i64 a0, .int .i64 a1, .int .i64 a2, .int .i64 a3]
  have hcf := config_any (w.alloc (.cells #[.int .i64 a0, .int .i64 a1, .int .i64 a2, .int .i64 a3] 22)) a0 a1 a2 a3
  have ok := cfC_ok a0 a1 a2 a3
  have hall := cfC_all a0 a1 a2 a3
  go_enter Try.func8, Try.ntmps8
  go_wp2_with fail
  (with_reducible refine hcf.mono ?_)
  rintro e w1 ⟨g, rfl, hK, k1⟩
  have hly := lay_any w1 a0 a1 a2 a3 _ hK
  generalize hC : cfC a0 a1 a2 a3 = C at *
  clear hcf hK hbx
  go_wp2_with fail
  (with_reducible refine hly.mono ?_)
  rintro e w2 ⟨l, rfl, hL, k2⟩
  have k02 := (kb.trans k1).trans k2
  have hof := of_any w2 1000 A len cap f (hW.keep k02)
  rw [show clampN 1000 = 1000 by decide] at hof
  clear hly kb k1 k2
  go_wp2_with fail
  (with_reducible refine hof.mono ?_)
  rintro e w3 ⟨LM, rfl, hM, _, _, k3⟩
  have htn := tnew_map (hL.keep k3) ok LM 1000 _ hM
  clear hof
  go_wp2_with fail
  (with_reducible refine htn.mono ?_)
  rintro e w4 ⟨L, rfl, hT, ho, k4⟩
  rw [show cutB C.all (ofB 1000 len f) = usB C len f from rfl] at hT
  generalize usB C len f = U at *
  have hs23 := k3.size
  have k24 := k3.trans k4
  have hsz : ∀ k ∈ L.own, w2.heap.size ≤ k := fun k hk => Nat.le_trans hs23 (ho k hk)
  have HO := Lib.hid hsz
  have HL := Lib.hid hL
  have K02 := Lib.hid k02
  clear htn hM ho k3 k4 hL k02 hsz hW hs23
  have hn1 := hI.nc
  have hn2 := hI.cap
  have hlt4 := hT.own_lt
  have HLT := Lib.hid hlt4
  have hbt := bits_t hT
  have HT := Lib.hid hT
  have K24 := Lib.hid k24
  have HI := Lib.hid hI
  clear hT k24 hI hlt4
  go_wp2_with fail
  (with_reducible refine hbt.mono ?_)
  rintro e wa ⟨LA, rfl, hA, _, _, ka⟩
  have hws := mwords_any hA
  clear hbt
  go_wp2_with fail
  (with_reducible refine hws.mono ?_)
  rintro e w5 ⟨g1, cp1, rfl, hr1, hg1, kb⟩
  have k45 := ka.trans kb
  have hT5 := HT.out.keep0 k45
  have hg14 : w4.heap.size ≤ g1 := Nat.le_trans ka.size hg1
  have hs45 := k45.size
  have HR1 := Lib.hid hr1
  have K25 := Lib.hid (K24.out.trans k45)
  have HT5 := Lib.hid hT5
  clear hws hA ka kb k45 hr1 hT5
  go_wp2_with fail
  go_loopw [42, 11] (fun x y wr => GotRel w5 L C U len2 100 x y wr) (fun x _ _ => len2 - (intOf x).toNat)
  case atStart => exact ⟨0, 0, U, fun _ => 0, by omega, rfl, by omega, by omega, HT5.out, Got.zero _ _ _ _, World.ownsRow_nil _ _ _ _, Keep.refl _ _⟩
  case round =>
    obtain ⟨j, c, T, l', hj, rfl, hcj, hc100, hTr, hgot, hown, hKr⟩ := hrel
    have HTr := Lib.hid hTr
    have HG := Lib.hid hgot
    have HOW := Lib.hid hown
    have HKr := Lib.hid hKr
    have hsr := hKr.size
    clear hTr hgot hown hKr
    by_cases hlt : j < len2
    · obtain ⟨b0, o0, hA2, _, hcs⟩ := (HI.out.keep (K02.out.trans (K25.out.since HKr.out HO.out))).cells (by omega)
      subst hA2
      have hc0 := hcs j hlt
      have hlt' : (j : Int) < len2 := by omega
      have hm := szW_mod (f2 j)
      have hb := szW_le (f2 j)
      obtain ⟨X, hX⟩ : ∃ X, IntKind.u64.wrap (f2 j) = X := ⟨_, rfl⟩
      rw [hX] at hm
      generalize szW (f2 j) = n at *
      obtain ⟨n', rfl⟩ : ∃ n', n = n' + 1 := ⟨n - 1, by omega⟩
      rw [show n' + 1 - 1 = n' from rfl] at hm
      have hr := reserve_any HTr.out ((n' : Int) + 1) (by omega) (by omega)
      generalize fst T (fo C (lc ((n' : Int) + 1))) C.all false = XX at *
      clear hcs
      go_wp2_with fail
      (with_reducible refine hr.mono ?_)
      rintro e w8 (⟨i, rfl, hil, hTi, rfl, hT8, k8⟩ | ⟨rfl, rfl, d8⟩)
      · have hUi : U i = false := by
          cases hu : U i
          · rfl
          · rw [HTr.out.sub i hu] at hTi; cases hTi
        have hown8 := ownsRow_keep HOW.out k8 (fun k hk => by have := HLT.out k hk; omega)
        have HO8 := Lib.hid hown8
        have HT8 := Lib.hid hT8
        have HN := Lib.hid (HG.out.next hil hTi hUi)
        have HTK := Lib.hid (HG.out.taken i)
        have hs8 := k8.size
        have HK8 := Lib.hid (HKr.out.trans k8)
        clear hr hown8 hT8 k8 hc0 hm hX
        by_cases h100 : j < 100
        · have h100' : (j : Int) < 100 := by omega
          go_wp2_with (at_builtin; refine wpList_append_src rfl (.tmp 63) (.tmp 65) 43 rfl w5.heap.size 3 i0 (.int .i64 0) 1 8 Try.underlying43 hi0 hz0 hz1 hz2 rfl (by omega) _ c (intR l' c) rfl (ownsRow_keep HO8.out (Keep.alloc (own := []) _ _) (by simp)) (some ⟨w8.heap.size, 0, none⟩) 1 1 [.int .i64 i] rfl rfl (by simp) (one_new7 w8 (.int .i64 i) 3) (by intro u hu; simp at hu; subst hu; rfl) (by simp [maxLen]; omega) (by omega) (by simp; omega) ?_)
          intro v9 w9 hown9 hgrow9
          rw [intR_next] at hown9
          have k89 : Keep [] w8 (w8.alloc (.cells #[.int .i64 i] 3)) := Keep.alloc _ _
          have hK9 : Keep L.own w5 w9 := (HK8.out.trans k89.of_nil).over (own_grown (ownsRow_keep HO8.out k89 (by simp)) hgrow9) (own_above (ownsRow_keep HO8.out k89 (by simp)))
          have hT9 := (HT8.out.keep0 k89).above (own_grown (ownsRow_keep HO8.out k89 (by simp)) hgrow9) (own_above (ownsRow_keep HO8.out k89 (by simp))) HT5.out
          have HF := Lib.hid (And.intro hown9 (And.intro hK9 hT9))
          clear hown9 hgrow9 hK9 hT9 k89
          go_wp2_with fail
          exact ⟨⟨j + 1, c + 1, _, _, by omega, by go_num, by omega, by omega, HF.out.2.2, HN.out, HF.out.1, HF.out.2.1⟩, by simp [intOf]; omega⟩
        · have h100' : ¬ (j : Int) < 100 := by omega
          go_wp2_with fail
          exact ⟨⟨j + 1, c, _, _, by omega, by go_num, by omega, by omega, HT8.out, HTK.out, HO8.out, HK8.out⟩, by simp [intOf]; omega⟩
      · have HF := Lib.hid (And.intro (HTr.out.dr d8) (And.intro (ownsRow_keep HOW.out (Keep.dr (own := []) d8) (by simp)) (HKr.out.trans (Keep.dr d8))))
        clear hr d8 hc0 hm hX
        by_cases h100 : j < 100
        · have h100' : (j : Int) < 100 := by omega
          go_wp2_with fail
          exact ⟨⟨j + 1, c, _, _, by omega, by go_num, by omega, by omega, HF.out.1, HG.out, HF.out.2.1, HF.out.2.2⟩, by simp [intOf]; omega⟩
        · have h100' : ¬ (j : Int) < 100 := by omega
          go_wp2_with fail
          exact ⟨⟨j + 1, c, _, _, by omega, by go_num, by omega, by omega, HF.out.1, HG.out, HF.out.2.1, HF.out.2.2⟩, by simp [intOf]; omega⟩
    · have hge : ¬ (j : Int) < len2 := by omega
      obtain ⟨Ag, cg, rfl, hIg, hAg⟩ := ints_of_owns HOW.out
      have hp := pub_any HTr.out ok Ag c cg l' hIg (fun a e hm => by have := hAg a e; have := HLT.out _ hm; omega)
      have hcgn := hIg.nc
      have hcgc := hIg.cap
      clear hIg
      go_wp2_with fail
      (with_reducible refine hp.mono ?_)
      rintro e w10 (⟨_, A7, cap7, rfl, hE, _, hT10, k10⟩ | ⟨hno, _⟩)
      case inr => rw [HG.out.ok] at hno; cases hno
      have hwd := HG.out.word
      have hsm := fun (h : 0 < c) => HG.out.some h
      have hU0 : c = 0 → put U l' true c = U := fun h => by subst h; rfl
      have hnm0 : c = 0 → nmB l' c = fun _ => false := fun h => by subst h; rfl
      generalize nmB l' c = N at *
      generalize put U l' true c = U' at *
      have hbt := bits_t hT10
      have HE := Lib.hid hE
      have HW := Lib.hid hwd
      have HSM := Lib.hid hsm
      have HU0 := Lib.hid hU0
      have hec := enC_le N (nw C.all)
      have hK32 : nw C.all ≤ 32 := by unfold nw; omega
      have hE1 := hE.nc
      have hE2 := hE.cap
      have K10 := Lib.hid (HKr.out.trans k10)
      clear hp hE hwd hsm hU0 hT10 k10 hnm0
      go_wp2_with fail
      (with_reducible refine hbt.mono ?_)
      rintro e w11 ⟨LB, rfl, hB, _, _, k11⟩
      have hws := mwords_any hB
      clear hbt
      go_wp2_with fail
      (with_reducible refine hws.mono ?_)
      rintro e w12 ⟨g2, cp2, rfl, hr2, hg2, k12⟩
      have k1012 := k11.trans k12
      have hE12 := HE.out.keep k1012
      have K512 : Keep L.own w5 w12 := K10.out.trans k1012.of_nil
      have hrA := HR1.out.keep K512 (fun hm => by have := HLT.out _ hm; omega)
      have hLy := HL.out.keep (K25.out.since K512 HO.out)
      have K0 := Lib.hid (K02.out.trans (K25.out.since K512 HO.out))
      have hsg := same_gen w12 g1 cp1 g2 cp2 (nw C.all) U U' (by omega) hrA hr2
      have HA := Lib.hid (fun (j : Nat) (hj : j < nw C.all) => (hrA.cell hj : w12.cell? ⟨g1, j, none⟩ = some (.int .u64 (pack U j : Nat))))
      have HB := Lib.hid (fun (j : Nat) (hj : j < nw C.all) => (hr2.cell hj : w12.cell? ⟨g2, j, none⟩ = some (.int .u64 (pack U' j : Nat))))
      have h1c := hrA.cap_le
      have h2c := hr2.cap_le
      have HS := Lib.hid (fun W (d : Dr w12 W) => same_gen W g1 cp1 g2 cp2 (nw C.all) U U' (by omega) (hrA.dr d) (hr2.dr d))
      have hall1 : 0 < C.all := by
        have := ok.all
        unfold Cf.all
        omega
      have hbl := ok.bits_le
      have HBT := Lib.hid (fun W (d : Dr w12 W) => (bits_yes (hLy.keep (Keep.dr d)) ok 0 hall1 : Calls Try.prog 36 #[.pointer (some ⟨l, 0, none⟩), .int .i64 0] W fun e w' => e = .returned (.int .i64 (C.bits : Nat)) ∧ W = w'))
      have HE12 := Lib.hid hE12
      clear hws hB hsg hrA hr2 hLy hE12 k11 k12 k1012 K512
      go_wp2_with fail
      go_loopw [86, 19] (fun x y wr => ChgRel w12 N (nw C.all) x y wr) (fun x _ _ => nw C.all - (intOf x).toNat)
      case atStart => exact ⟨0, by omega, rfl, rfl, Dr.refl _⟩
      case round =>
        obtain ⟨i, hiK, rfl, rfl, hd⟩ := hrel
        by_cases hik : i < nw C.all
        · have hik' : (i : Int) < (nw C.all : Nat) := by omega
          have ca := HA.out i hik
          have cb := HB.out i hik
          have hwi := HW.out i
          have ca := dr_cell hd ca
          have cb := dr_cell hd cb
          unfold wv at ca cb
          by_cases hpk : pack N i = 0
          · rw [← hwi.2 hpk] at cb
            have e1 := (ent_skip hpk 0 U).1
            have HE1 := Lib.hid e1
            obtain ⟨y, hy⟩ : ∃ y : Int, y = ((pack U i : Nat) : Int) := ⟨_, rfl⟩
            rw [← hy] at ca cb
            clear hwi hpk e1 hy
            go_wp2_with fail
            go_quiet (fail)
            go_wp2_with fail
            go_roundw
            case rel => exact ⟨i + 1, by omega, by go_num, by rw [HE1.out], hd.trans (Dr.drewN _ _)⟩
            case measure => simp [intOf]; omega
          · have hne : pack U i ≠ pack U' i := fun e => hpk (hwi.1 e)
            obtain ⟨e1, e2⟩ := enE_at C.bits N U' hik hpk
            have e3 := (ent_more hpk 0 U).1
            have HE3 := Lib.hid e3
            obtain ⟨b, o, rfl, _, _, hcs⟩ := HE12.out.cells (by omega)
            obtain ⟨cx, cy⟩ := hcs _ e1
            rw [e2] at cx cy
            have hlen : ¬ ((enC N (nw C.all) : Nat) : Int) ≤ (enC N i : Nat) := by omega
            have hlenN : ¬ enC N (nw C.all) ≤ enC N i := by omega
            have hlenD : decide (enC N (nw C.all) ≤ enC N i) = false := decide_eq_false hlenN
            have hcn : (enC N i : Nat) ≤ 64 := by have := enC_le N i; omega
            obtain ⟨y, hy⟩ : ∃ y : Int, y = ((pack U i : Nat) : Int) := ⟨_, rfl⟩
            obtain ⟨z, hz⟩ : ∃ z : Int, z = ((pack U' i : Nat) : Int) := ⟨_, rfl⟩
            have hyz : (y == z) = false := by simp; omega
            rw [← hy] at ca
            simp only at cx cy
            rw [← hz] at cb cy
            push_cast at cx
            generalize C.bits = bb at *
            generalize enC N i = ei at *
            generalize enC N (nw C.all) = en at *
            clear hwi hpk hne e1 e2 e3 hcs hy hz
            go_wp2_with fail
            go_quiet (fail)
            go_wp2_with fail
            obtain ⟨w13, hw13⟩ : ∃ W, W = wr.drewN nq := ⟨_, rfl⟩
            rw [← hw13]
            have D13 : Dr w12 w13 := hw13 ▸ hd.trans (Dr.drewN _ _)
            have cx := dr_cell D13 cx
            have cy := dr_cell D13 cy
            have cb := dr_cell (show Dr wr w13 from hw13 ▸ Dr.drewN _ _) cb
            have hq : ∀ k, Calls Try.prog 36 #[.pointer (some ⟨l, 0, none⟩), .int .i64 0] (w13.drewN k) fun e w'' => e = .returned (.int .i64 (bb : Nat)) ∧ ∃ q, w'' = w13.drewN q := fun k => quiet_same (HBT.out _ (D13.trans (Dr.drewN _ _)))
            clear hw13
            go_quiet ((go_at_call 36; exact hq _))
            go_wp2_with fail
            go_roundw
            case rel => exact ⟨i + 1, by omega, by go_num, by rw [HE3.out]; go_num, D13.trans (Dr.drewN _ _)⟩
            case measure => simp [intOf]; omega
        · obtain rfl : i = nw C.all := by omega
          have hik' : ¬ ((nw C.all : Nat) : Int) < (nw C.all : Nat) := by omega
          have hsg := HS.out _ hd
          generalize enC N (nw C.all) = en at *
          by_cases hc0 : c = 0
          · rw [decide_eq_true (fun j hj => by rw [HU0.out hc0])] at hsg
            have hc1 : ¬ (0 : Int) < c := by omega
            go_wp2_with fail
            (with_reducible refine hsg.mono ?_)
            rintro e w20 ⟨rfl, d20⟩
            have ha := awake7_any w20
            clear hsg
            go_wp2_with fail
            (with_reducible refine ha.mono ?_)
            rintro e w21 ⟨rfl, k21⟩
            go_wp2
            go_ret
            exact ⟨rfl, (K0.out.trans (Keep.dr (hd.trans d20))).trans k21⟩
          · rw [decide_eq_false (fun h => by
              obtain ⟨q, hq, hqn⟩ := HSM.out (by omega)
              exact hqn ((HW.out q).1 (h q hq)))] at hsg
            have hc1 : (0 : Int) < c := by omega
            go_wp2_with fail
            (with_reducible refine hsg.mono ?_)
            rintro e w20 ⟨rfl, d20⟩
            have ha := awake7_any w20
            clear hsg
            go_wp2_with fail
            (with_reducible refine ha.mono ?_)
            rintro e w21 ⟨rfl, k21⟩
            go_wp2
            go_ret
            exact ⟨rfl, (K0.out.trans (Keep.dr (hd.trans d20))).trans k21⟩
end Go.Proofs.Ytfihaaciaobolaa
