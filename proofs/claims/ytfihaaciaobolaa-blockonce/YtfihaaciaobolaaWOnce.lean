/-
  BlockOnce walked. No conditions but what came in.
-/
import Derived.Test.YtfihaaciaobolaaWEnt
import Derived.Test.YtfihaaciaobolaaR61
namespace Go.Proofs.Ytfihaaciaobolaa
open Go.RowKit Go.Flo Go.Bit Go.Bmp
set_option maxRecDepth 100000

theorem fr_none (C : Cf) (T : Nat → Bool) (a k : Nat) (h : ∀ j, a ≤ j → j < C.all → T j ≠ false) (hk : a ≤ fo C k) : fr C T k = 0 := by
  have hn := fo_next C k
  have hl := fo_le C (k + 1)
  have := cnt_none hn (fun j h1 h2 => h j (by omega) (by omega))
  unfold fr
  omega

theorem fo_mono (C : Cf) (i d : Nat) : fo C i ≤ fo C (i + d) := by
  induction d with
  | zero => exact Nat.le_refl _
  | succ d ih => exact Nat.le_trans ih (fo_next C (i + d))

theorem ents_over {w w' : World} {own : List Nat} {A : Option Addr} {n cap B : Nat} {E : Nat → Ent} (h : Ents w [] A n cap E) (hg : 0 < n → ∃ g, A = some ⟨g, 0, none⟩ ∧ B ≤ g) (ho : ∀ k ∈ own, k < B) (hk : Keep own w w') : Ents w' [] A n cap E :=
  ⟨h.nc, h.cap, fun h0 => by
    obtain ⟨b, o, h1, h2, h3, h4⟩ := h.cells h0
    obtain ⟨g, e1, e2⟩ := hg h0
    rw [h1] at e1
    injection e1 with e1
    injection e1 with e1
    have hb : b ∉ own := fun hm => by have := ho b hm; omega
    exact ⟨b, o, h1, h2, Nat.lt_of_lt_of_le h3 hk.size, fun j hj => ⟨(hk.cell (p := ⟨b, _, none⟩) h3 hb).trans (h4 j hj).1, (hk.cell (p := ⟨b, _, none⟩) h3 hb).trans (h4 j hj).2⟩⟩⟩

/-- The entries of a turn there, and of one back. -/
theorem two_ents (bits0 : Nat) (N U U' : Nat → Bool) (K : Nat) (hp : ∀ i, U' i = if N i then true else U i) (hw : ∀ k, pack U k = pack U' k ↔ pack N k = 0) (j : Nat) (hj : j < enC N K) :
    ∃ q, enE bits0 N U' K j = ⟨(bits0 + q : Nat), (pack U' q : Nat)⟩ ∧ enE bits0 N U K j = ⟨(bits0 + q : Nat), (pack U q : Nat)⟩ ∧ pack U' q ≠ pack U q ∧ bits .and .u64 ((pack U' q : Nat) : Int) ((pack U q : Nat) : Int) = ((pack U q : Nat) : Int) := by
  obtain ⟨q, h1, h2, h3, h4⟩ := enE_what bits0 N U' K j hj
  have h5 := (enE_at bits0 N U h1 h2).2
  rw [h3] at h5
  refine ⟨q, h4, h5, fun e => h2 ((hw q).1 e.symm), and_sub fun i hi => ?_⟩
  rw [hp i, hi]
  split <;> rfl

set_option maxHeartbeats 8000000 in
theorem walk_once (w : World) (a0 a1 a2 a3 : Int) (A : Option Addr) (len cap : Nat) (f : Nat → Nat) (hW : Wrd w A len cap f) (A2 : Option Addr) (len2 cap2 : Nat) (f2 : Nat → Int) (hI : Ints w A2 len2 cap2 f2) :
    Calls Try.prog 5 #[.agg #[.int .i64 a0, .int .i64 a1, .int .i64 a2, .int .i64 a3], .slice A len cap, .slice A2 len2 cap2] w fun e w' => e = .returned (.bool true) ∧ Keep [] w w' := by
  obtain ⟨i0, hi0, hz0, hz1, hz2⟩ := info_parts parts3
  have kb : Keep [] w (w.alloc (.cells #[.int .i64 a0, .int .i64 a1, .int .i64 a2, .int .i64 a3] 22)) := Keep.alloc _ _
  have hbx := Blk.new w 22 #[.int .i64 a0, .int .i64 a1, .int .i64 a2, .int .i64 a3]
  have hcf := config_any (w.alloc (.cells #[.int .i64 a0, .int .i64 a1, .int .i64 a2, .int .i64 a3] 22)) a0 a1 a2 a3
  have ok := cfC_ok a0 a1 a2 a3
  have hall := cfC_all a0 a1 a2 a3
  go_enter Try.func5, Try.ntmps5
  go_wp2_with fail
  (with_reducible refine hcf.mono ?_)
  rintro e w1 ⟨g, rfl, hK, k1⟩
  have kc : Keep [] w1 (w1.alloc (.cells #[.slice (some ⟨g, 0, none⟩) 1 1, .int .i64 (cfC a0 a1 a2 a3).b0, .int .i64 (bk a1), .int .i64 (bk a2), .int .i64 (bk a3), .int .i64 1, .int .i64 0, .int .i64 40] 27)) := Keep.alloc _ _
  have hly := lay_any _ a0 a1 a2 a3 _ (hK.keep kc)
  generalize hC : cfC a0 a1 a2 a3 = C at *
  clear hcf hK hbx
  go_wp2_with fail
  (with_reducible refine hly.mono ?_)
  rintro e w2 ⟨l, rfl, hL, k2⟩
  have k02 := ((kb.trans k1).trans kc).trans k2
  have hof := of_any w2 1000 A len cap f (hW.keep k02)
  rw [show clampN 1000 = 1000 by decide] at hof
  clear hly kb k1 kc k2
  go_wp2_with fail
  (with_reducible refine hof.mono ?_)
  rintro e w3 ⟨LM, rfl, hM, _, _, k3⟩
  have htn := tnew_map (hL.keep k3) ok LM 1000 _ hM
  clear hof
  go_wp2_with fail
  (with_reducible refine htn.mono ?_)
  rintro e w4 ⟨L, rfl, hT, ho, k4⟩
  rw [show cutB C.all (ofB 1000 len f) = usB C len f from rfl] at hT
  generalize usB C len f = U at *
  have hs23 := k3.size
  have k24 := k3.trans k4
  have hsz : ∀ k ∈ L.own, w2.heap.size ≤ k := fun k hk => Nat.le_trans hs23 (ho k hk)
  have HO := Lib.hid hsz
  have HL := Lib.hid hL
  have K02 := Lib.hid k02
  clear htn hM ho k3 k4 hL k02 hsz hW hs23
  have hn1 := hI.nc
  have hn2 := hI.cap
  have hlt4 := hT.own_lt
  have HLT := Lib.hid hlt4
  have hbt := bits_t hT
  have HT := Lib.hid hT
  have K24 := Lib.hid k24
  have HI := Lib.hid hI
  clear hT k24 hI hlt4
  go_wp2_with fail
  (with_reducible refine hbt.mono ?_)
  rintro e wa ⟨LA, rfl, hA, _, _, ka⟩
  have hws := mwords_any hA
  clear hbt
  go_wp2_with fail
  (with_reducible refine hws.mono ?_)
  rintro e w5 ⟨g1, cp1, rfl, hr1, hg1, kb⟩
  have k45 := ka.trans kb
  have hT5 := HT.out.keep0 k45
  have hg14 : w4.heap.size ≤ g1 := Nat.le_trans ka.size hg1
  have hs45 := k45.size
  have HR1 := Lib.hid hr1
  have K25 := Lib.hid (K24.out.trans k45)
  have HT5 := Lib.hid hT5
  clear hws hA ka kb k45 hr1 hT5
  go_wp2_with fail
  go_loopw [47, 12] (fun x y wr => GotRel w5 L C U len2 200 x y wr) (fun x _ _ => len2 - (intOf x).toNat)
  case atStart => exact ⟨0, 0, U, fun _ => 0, by omega, rfl, by omega, by omega, HT5.out, Got.zero _ _ _ _, World.ownsRow_nil _ _ _ _, Keep.refl _ _⟩
  case round =>
    obtain ⟨j, c, T, l', hj, rfl, hcj, hc200, hTr, hgot, hown, hKr⟩ := hrel
    have HTr := Lib.hid hTr
    have HG := Lib.hid hgot
    have HOW := Lib.hid hown
    have HKr := Lib.hid hKr
    have hsr := hKr.size
    clear hTr hgot hown hKr
    by_cases hlt : j < len2
    · obtain ⟨b0, o0, hA2, _, hcs⟩ := (HI.out.keep (K02.out.trans (K25.out.since HKr.out HO.out))).cells (by omega)
      subst hA2
      have hc0 := hcs j hlt
      have hlt' : (j : Int) < len2 := by omega
      by_cases h200 : j < 200
      · have h200' : (j : Int) < 200 := by omega
        have hm := szW_mod (f2 j)
        have hb := szW_le (f2 j)
        obtain ⟨X, hX⟩ : ∃ X, IntKind.u64.wrap (f2 j) = X := ⟨_, rfl⟩
        rw [hX] at hm
        generalize szW (f2 j) = n at *
        obtain ⟨n', rfl⟩ : ∃ n', n = n' + 1 := ⟨n - 1, by omega⟩
        rw [show n' + 1 - 1 = n' from rfl] at hm
        have hr := reserve_any HTr.out ((n' : Int) + 1) (by omega) (by omega)
        have hfa := fst_spec T C.all false (C.all - fo C (lc ((n' : Int) + 1))) (fo C (lc ((n' : Int) + 1))) rfl
        have hsz := fun b hb => cls_size C b hb ((n' : Int) + 1) (by omega)
        have hlz := fun k => lc_size ((n' : Int) + 1) k (by omega)
        generalize hXX : fst T (fo C (lc ((n' : Int) + 1))) C.all false = XX at *
        have HFA := Lib.hid hfa
        have HSZ := Lib.hid hsz
        have HLZ := Lib.hid hlz
        clear hcs hXX hfa hsz hlz
        go_wp2_with fail
        (with_reducible refine hr.mono ?_)
        rintro e w8 (⟨i, rfl, hil, hTi, rfl, hT8, k8⟩ | ⟨rfl, rfl, d8⟩)
        · have hUi : U i = false := by
            cases hu : U i
            · rfl
            · rw [HTr.out.sub i hu] at hTi; cases hTi
          have hown8 := ownsRow_keep HOW.out k8 (fun k hk => by have := HLT.out k hk; omega)
          obtain ⟨Ag, cg, rfl, hIg, hAg⟩ := ints_of_owns hown8
          have hla : fo C (lc ((n' : Int) + 1)) ≤ i := by
            rcases HFA.out with ⟨e1, _⟩ | ⟨i', e1, e2, _⟩
            · omega
            · obtain rfl : i = i' := by omega
              exact e2
          have hge := (HSZ.out i hil).2 hla
          have hus := used_any hT8 i
          rw [gb_nat, hUi] at hus
          have hLy := HL.out.keep ((K25.out.since HKr.out HO.out).since k8 HO.out)
          have hsy := fun W (d : Dr w8 W) => size_yes (hLy.keep (Keep.dr d)) i hil
          generalize 2 * 2 ^ C.cls i = z at *
          have HSY := Lib.hid hsy
          have HO8 := Lib.hid hown8
          have HT8 := Lib.hid hT8
          have HN := Lib.hid (HG.out.next hil hTi hUi)
          have HNE := Lib.hid (fun q (hq : q < c) => HG.out.ne hTi hq)
          have HIg := Lib.hid hIg
          have hs8 := k8.size
          have hcgn := hIg.nc
          have hcgc := hIg.cap
          have HK8 := Lib.hid (HKr.out.trans k8)
          clear hr hown8 hT8 k8 hc0 hm hX hIg hAg hLy hsy hla HOW
          go_wp2_with fail
          (with_reducible refine hus.mono ?_)
          rintro e w8' ⟨rfl, d8⟩
          have hsy := HSY.out w8' d8
          clear hus
          go_wp2_with fail
          (with_reducible refine hsy.mono ?_)
          rintro e w8'' ⟨rfl, rfl⟩
          have HIg8 := Lib.hid (HIg.out.keep (Keep.dr d8))
          have HO8' := Lib.hid (ownsRow_keep HO8.out (Keep.dr (own := []) d8) (by simp))
          have HT8' := Lib.hid (HT8.out.dr d8)
          have HK8' := Lib.hid (HK8.out.trans (Keep.dr d8))
          have hs9 := (Keep.dr (own := []) d8).size
          clear hsy HO8 HT8 HK8 HIg HSY
          go_wp2_with fail
          generalize w8' = wo at *
          go_loopw [97] (fun x wr => (∃ q : Nat, q ≤ c ∧ x = .int .i64 q) ∧ wo = wr) (fun x _ => c - (intOf x).toNat)
          case atStart => exact ⟨⟨0, by omega, rfl⟩, rfl⟩
          case round =>
            obtain ⟨⟨q, hq, rfl⟩, rfl⟩ := hrel
            by_cases hqc : q < c
            · obtain ⟨bg, og, rfl, _, hcs⟩ := HIg8.out.cells (by omega)
              have cq := hcs q hqc
              have hqc' : (q : Int) < c := by omega
              have hne := HNE.out q hqc
              have hne' : (l' q == (i : Int)) = false := by simpa using hne
              generalize l' q = lq at *
              clear hcs hne
              go_wp2_with fail
              go_roundw
              case rel => exact ⟨⟨q + 1, by omega, by go_num⟩, by first | rfl | trivial⟩
              case measure => simp [intOf]; omega
            · obtain rfl : q = c := by omega
              have hqc' : ¬ (q : Int) < q := by omega
              go_wp2_with (at_builtin; refine wpList_append_src rfl (.tmp 105) (.tmp 107) 43 rfl w5.heap.size 3 i0 (.int .i64 0) 1 8 Try.underlying43 hi0 hz0 hz1 hz2 rfl (by omega) _ q (intR l' q) rfl (ownsRow_keep HO8'.out (Keep.alloc (own := []) _ _) (by simp)) (some ⟨wo.heap.size, 0, none⟩) 1 1 [.int .i64 i] rfl rfl (by simp) (one_new7 wo (.int .i64 i) 3) (by intro u hu; simp at hu; subst hu; rfl) (by simp [maxLen]; omega) (by omega) (by simp; omega) ?_)
              intro v9 w9 hown9 hgrow9
              rw [intR_next] at hown9
              have k89 : Keep [] wo (wo.alloc (.cells #[.int .i64 i] 3)) := Keep.alloc _ _
              have hK9 : Keep L.own w5 w9 := (HK8'.out.trans k89.of_nil).over (own_grown (ownsRow_keep HO8'.out k89 (by simp)) hgrow9) (own_above (ownsRow_keep HO8'.out k89 (by simp)))
              have hT9 := (HT8'.out.keep0 k89).above (own_grown (ownsRow_keep HO8'.out k89 (by simp)) hgrow9) (own_above (ownsRow_keep HO8'.out k89 (by simp))) HT5.out
              have HF := Lib.hid (And.intro hown9 (And.intro hK9 hT9))
              clear hown9 hgrow9 hK9 hT9 k89
              go_wp2_with fail
              exact ⟨⟨j + 1, q + 1, _, _, by omega, by go_num, by omega, by omega, HF.out.2.2, HN.out, HF.out.1, HF.out.2.1⟩, by simp [intOf]; omega⟩
        · have HF := Lib.hid (And.intro (HTr.out.dr d8) (And.intro (ownsRow_keep HOW.out (Keep.dr (own := []) d8) (by simp)) (HKr.out.trans (Keep.dr d8))))
          have hno : ∀ q, fo C (lc ((n' : Int) + 1)) ≤ q → q < C.all → T q ≠ false := by
            rcases HFA.out with ⟨_, e2⟩ | ⟨i', e1, _⟩
            · exact e2
            · omega
          have HNO := Lib.hid hno
          clear hr d8 hc0 hm hX hno HOW HKr HTr
          go_wp2_with fail
          generalize w8 = wo at *
          go_loopw [67] (fun x wr => (∃ k : Nat, k ≤ 4 ∧ x = .int .i64 k) ∧ Dr wo wr) (fun x _ => 4 - (intOf x).toNat)
          case atStart => exact ⟨⟨0, by omega, rfl⟩, Dr.refl _⟩
          case round =>
            obtain ⟨⟨k, hk, rfl⟩, hd⟩ := hrel
            by_cases hk4 : k < 4
            · have hk4' : (k : Int) < 4 := by omega
              have hfr := free_yes (HF.out.1.dr hd) k (by omega)
              by_cases hf0 : fr C T k = 0
              · rw [hf0] at hfr
                go_wp2_with fail
                (with_reducible refine hfr.mono ?_)
                rintro e w9 ⟨rfl, d9⟩
                clear hfr
                go_wp2_with fail
                go_roundw
                case rel => exact ⟨⟨k + 1, by omega, by go_num⟩, hd.trans d9⟩
                case measure => simp [intOf]; omega
              · have hlk : ¬ lc ((n' : Int) + 1) ≤ k := fun h => hf0 (by
                  refine fr_none C T _ k HNO.out ?_
                  have := fo_mono C (lc ((n' : Int) + 1)) (k - lc ((n' : Int) + 1))
                  rwa [show lc ((n' : Int) + 1) + (k - lc ((n' : Int) + 1)) = k by omega] at this)
                have hsk : ¬ (n' : Int) + 1 ≤ ((2 * 2 ^ k : Nat) : Int) := fun h => hlk ((HLZ.out k).1 h)
                have hrs := rsize_any k hk4
                generalize 2 * 2 ^ k = z at *
                generalize fr C T k = y at *
                have hy0 : (0 : Int) < y := by omega
                clear hlk
                go_wp2_with fail
                (with_reducible refine hfr.mono ?_)
                rintro e w9 ⟨rfl, d9⟩
                have hrs := hrs w9
                clear hfr
                go_wp2_with fail
                (with_reducible refine hrs.mono ?_)
                rintro e w9' ⟨rfl, rfl⟩
                clear hrs
                go_wp2_with fail
                go_roundw
                case rel => exact ⟨⟨k + 1, by omega, by go_num⟩, hd.trans d9⟩
                case measure => simp [intOf]; omega
            · have hk4' : ¬ (k : Int) < 4 := by omega
              have HF2 := Lib.hid (And.intro (HF.out.1.dr hd) (And.intro (ownsRow_keep HF.out.2.1 (Keep.dr (own := []) hd) (by simp)) (HF.out.2.2.trans (Keep.dr hd))))
              go_wp2_with fail
              exact ⟨⟨j + 1, c, _, _, by omega, by go_num, by omega, by omega, HF2.out.1, HG.out, HF2.out.2.1, HF2.out.2.2⟩, by simp [intOf]; omega⟩
      · have h200' : ¬ (j : Int) < 200 := by omega
        clear hcs
        obtain ⟨Ag, cg, rfl, hIg, hAg⟩ := ints_of_owns HOW.out
        have hp := pub_any HTr.out ok Ag c cg l' hIg (fun a e hm => by have := hAg a e; have := HLT.out _ hm; omega)
        have hcgn := hIg.nc
        have hcgc := hIg.cap
        have HIg := Lib.hid hIg
        have HAg := Lib.hid (fun a (e : Ag = some a) (hm : a.block ∈ L.own) => (by have := hAg a e; have := HLT.out _ hm; omega : False))
        clear hIg hAg
        go_wp2_with fail
        (with_reducible refine hp.mono ?_)
        rintro e w10 (⟨_, A7, cap7, rfl, hE, hEg, hT10, k10⟩ | ⟨hno, _⟩)
        case inr => rw [HG.out.ok] at hno; cases hno
        have hrl := rel_any hT10 ok Ag c cg l' (HIg.out.keepO k10 HAg.out) HAg.out
        have hwd := HG.out.word
        have hbk := HG.out.back
        have hro := HG.out.round
        have hput := put_eq U l' true c
        have HWD := Lib.hid hwd
        have HBK := Lib.hid hbk
        have HPU := Lib.hid hput
        have HE := Lib.hid (And.intro hE hEg)
        have K10 := Lib.hid (HKr.out.trans k10)
        have hE1 := hE.nc
        have hE2 := hE.cap
        clear hp hE hEg hT10 k10 hwd hbk hput
        go_wp2_with fail
        (with_reducible refine hrl.mono ?_)
        rintro e w11 (⟨_, A8, cap8, rfl, hE8, _, hT11, k11⟩ | ⟨hno, _⟩)
        case inr => rw [HBK.out] at hno; cases hno
        rw [hro] at hE8 hT11
        have hE7 := ents_over HE.out.1 HE.out.2 (fun k hk => by have := HLT.out k hk; omega) k11
        have K511 := Lib.hid (K10.out.trans k11)
        have hbt := fun W (d : Dr w11 W) => bits_t (hT11.dr d)
        have HN := Lib.hid (fun j (hj : j < enC (nmB l' c) (nw C.all)) => (two_ents C.bits (nmB l' c) U (put U l' true c) (nw C.all) (fun i => HPU.out i) HWD.out j hj))
        have hec := enC_le (nmB l' c) (nw C.all)
        have hK32 : nw C.all ≤ 32 := by unfold nw; omega
        have hF1 := hE8.nc
        have hF2 := hE8.cap
        generalize enC (nmB l' c) (nw C.all) = en at *
        generalize enE C.bits (nmB l' c) (put U l' true c) (nw C.all) = E7 at *
        generalize enE C.bits (nmB l' c) U (nw C.all) = E8 at *
        have HE7 := Lib.hid hE7
        have HE8 := Lib.hid hE8
        have HBT := Lib.hid hbt
        clear hrl hE7 hE8 hT11 k11 hbt hro
        go_wp2_with fail
        go_loopw [137] (fun x wr => ∃ j : Nat, j ≤ en ∧ x = .int .i64 j ∧ Dr w11 wr) (fun x _ => en - (intOf x).toNat)
        case atStart => exact ⟨0, by omega, rfl, Dr.refl _⟩
        case round =>
          obtain ⟨j', hj', rfl, hd⟩ := hrel
          by_cases hlt2 : j' < en
          · have hlt2' : (j' : Int) < en := by omega
            obtain ⟨b, o, rfl, _, _, hcs⟩ := HE7.out.cells (by omega)
            obtain ⟨b', o', rfl, _, _, hcs'⟩ := HE8.out.cells (by omega)
            obtain ⟨q, e1, e2, e3, e4⟩ := HN.out j' hlt2
            obtain ⟨cx, cy⟩ := hcs j' hlt2
            obtain ⟨dx, dy⟩ := hcs' j' hlt2
            rw [e1] at cx cy
            rw [e2] at dx dy
            simp only at cx cy dx dy
            obtain ⟨y, hy⟩ : ∃ y : Int, y = ((pack U q : Nat) : Int) := ⟨_, rfl⟩
            obtain ⟨z, hz⟩ : ∃ z : Int, z = ((pack (put U l' true c) q : Nat) : Int) := ⟨_, rfl⟩
            have hne : (z == y) = false := by simp; omega
            rw [← hy] at dy e4
            rw [← hz] at cy e4
            generalize C.bits + q = bb at *
            have cx := dr_cell hd cx
            have cy := dr_cell hd cy
            have dx := dr_cell hd dx
            have dy := dr_cell hd dy
            clear hcs hcs' e1 e2 e3 hy hz
            go_wp2_with fail
            go_quiet (fail)
            go_wp2_with fail
            go_roundw
            case rel => exact ⟨j' + 1, by omega, by go_num, hd.trans (Dr.drewN _ _)⟩
            case measure => simp [intOf]; omega
          · obtain rfl : j' = en := by omega
            have hlt2' : ¬ (j' : Int) < j' := by omega
            have hbt := HBT.out wr hd
            go_wp2_with fail
            (with_reducible refine hbt.mono ?_)
            rintro e w12 ⟨LB, rfl, hB, _, _, k12⟩
            have hws := mwords_any hB
            clear hbt
            go_wp2_with fail
            (with_reducible refine hws.mono ?_)
            rintro e w13 ⟨g2, cp2, rfl, hr2, hg2, k13⟩
            have K513 := K511.out.trans ((Keep.dr hd).trans (k12.trans k13).of_nil)
            have hrA := HR1.out.keep K513 (fun hm => by have := HLT.out _ hm; omega)
            have hsg := same_wv w13 g2 cp2 g1 cp1 (nw C.all) U (by omega) hr2 hrA
            have K0 := Lib.hid (K02.out.trans (K25.out.since K513 HO.out))
            clear hws hB hr2 hrA k12 k13 K513
            go_wp2_with fail
            (with_reducible refine hsg.mono ?_)
            rintro e w20 ⟨rfl, d20⟩
            have ha := awake7_any w20
            clear hsg
            go_wp2_with fail
            (with_reducible refine ha.mono ?_)
            rintro e w21 ⟨rfl, k21⟩
            go_wp2
            go_ret
            exact ⟨rfl, (K0.out.trans (Keep.dr d20)).trans k21⟩
    · have hge : ¬ (j : Int) < len2 := by omega
      obtain ⟨Ag, cg, rfl, hIg, hAg⟩ := ints_of_owns HOW.out
      have hp := pub_any HTr.out ok Ag c cg l' hIg (fun a e hm => by have := hAg a e; have := HLT.out _ hm; omega)
      have hcgn := hIg.nc
      have hcgc := hIg.cap
      have HIg := Lib.hid hIg
      have HAg := Lib.hid (fun a (e : Ag = some a) (hm : a.block ∈ L.own) => (by have := hAg a e; have := HLT.out _ hm; omega : False))
      clear hIg hAg
      go_wp2_with fail
      (with_reducible refine hp.mono ?_)
      rintro e w10 (⟨_, A7, cap7, rfl, hE, hEg, hT10, k10⟩ | ⟨hno, _⟩)
      case inr => rw [HG.out.ok] at hno; cases hno
      have hrl := rel_any hT10 ok Ag c cg l' (HIg.out.keepO k10 HAg.out) HAg.out
      have hwd := HG.out.word
      have hbk := HG.out.back
      have hro := HG.out.round
      have hput := put_eq U l' true c
      have HWD := Lib.hid hwd
      have HBK := Lib.hid hbk
      have HPU := Lib.hid hput
      have HE := Lib.hid (And.intro hE hEg)
      have K10 := Lib.hid (HKr.out.trans k10)
      have hE1 := hE.nc
      have hE2 := hE.cap
      clear hp hE hEg hT10 k10 hwd hbk hput
      go_wp2_with fail
      (with_reducible refine hrl.mono ?_)
      rintro e w11 (⟨_, A8, cap8, rfl, hE8, _, hT11, k11⟩ | ⟨hno, _⟩)
      case inr => rw [HBK.out] at hno; cases hno
      rw [hro] at hE8 hT11
      have hE7 := ents_over HE.out.1 HE.out.2 (fun k hk => by have := HLT.out k hk; omega) k11
      have K511 := Lib.hid (K10.out.trans k11)
      have hbt := fun W (d : Dr w11 W) => bits_t (hT11.dr d)
      have HN := Lib.hid (fun j (hj : j < enC (nmB l' c) (nw C.all)) => (two_ents C.bits (nmB l' c) U (put U l' true c) (nw C.all) (fun i => HPU.out i) HWD.out j hj))
      have hec := enC_le (nmB l' c) (nw C.all)
      have hK32 : nw C.all ≤ 32 := by unfold nw; omega
      have hF1 := hE8.nc
      have hF2 := hE8.cap
      generalize enC (nmB l' c) (nw C.all) = en at *
      generalize enE C.bits (nmB l' c) (put U l' true c) (nw C.all) = E7 at *
      generalize enE C.bits (nmB l' c) U (nw C.all) = E8 at *
      have HE7 := Lib.hid hE7
      have HE8 := Lib.hid hE8
      have HBT := Lib.hid hbt
      clear hrl hE7 hE8 hT11 k11 hbt hro
      go_wp2_with fail
      go_loopw [137] (fun x wr => ∃ j : Nat, j ≤ en ∧ x = .int .i64 j ∧ Dr w11 wr) (fun x _ => en - (intOf x).toNat)
      case atStart => exact ⟨0, by omega, rfl, Dr.refl _⟩
      case round =>
        obtain ⟨j', hj', rfl, hd⟩ := hrel
        by_cases hlt2 : j' < en
        · have hlt2' : (j' : Int) < en := by omega
          obtain ⟨b, o, rfl, _, _, hcs⟩ := HE7.out.cells (by omega)
          obtain ⟨b', o', rfl, _, _, hcs'⟩ := HE8.out.cells (by omega)
          obtain ⟨q, e1, e2, e3, e4⟩ := HN.out j' hlt2
          obtain ⟨cx, cy⟩ := hcs j' hlt2
          obtain ⟨dx, dy⟩ := hcs' j' hlt2
          rw [e1] at cx cy
          rw [e2] at dx dy
          simp only at cx cy dx dy
          obtain ⟨y, hy⟩ : ∃ y : Int, y = ((pack U q : Nat) : Int) := ⟨_, rfl⟩
          obtain ⟨z, hz⟩ : ∃ z : Int, z = ((pack (put U l' true c) q : Nat) : Int) := ⟨_, rfl⟩
          have hne : (z == y) = false := by simp; omega
          rw [← hy] at dy e4
          rw [← hz] at cy e4
          generalize C.bits + q = bb at *
          have cx := dr_cell hd cx
          have cy := dr_cell hd cy
          have dx := dr_cell hd dx
          have dy := dr_cell hd dy
          clear hcs hcs' e1 e2 e3 hy hz
          go_wp2_with fail
          go_quiet (fail)
          go_wp2_with fail
          go_roundw
          case rel => exact ⟨j' + 1, by omega, by go_num, hd.trans (Dr.drewN _ _)⟩
          case measure => simp [intOf]; omega
        · obtain rfl : j' = en := by omega
          have hlt2' : ¬ (j' : Int) < j' := by omega
          have hbt := HBT.out wr hd
          go_wp2_with fail
          (with_reducible refine hbt.mono ?_)
          rintro e w12 ⟨LB, rfl, hB, _, _, k12⟩
          have hws := mwords_any hB
          clear hbt
          go_wp2_with fail
          (with_reducible refine hws.mono ?_)
          rintro e w13 ⟨g2, cp2, rfl, hr2, hg2, k13⟩
          have K513 := K511.out.trans ((Keep.dr hd).trans (k12.trans k13).of_nil)
          have hrA := HR1.out.keep K513 (fun hm => by have := HLT.out _ hm; omega)
          have hsg := same_wv w13 g2 cp2 g1 cp1 (nw C.all) U (by omega) hr2 hrA
          have K0 := Lib.hid (K02.out.trans (K25.out.since K513 HO.out))
          clear hws hB hr2 hrA k12 k13 K513
          go_wp2_with fail
          (with_reducible refine hsg.mono ?_)
          rintro e w20 ⟨rfl, d20⟩
          have ha := awake7_any w20
          clear hsg
          go_wp2_with fail
          (with_reducible refine ha.mono ?_)
          rintro e w21 ⟨rfl, k21⟩
          go_wp2
          go_ret
          exact ⟨rfl, (K0.out.trans (Keep.dr d20)).trans k21⟩
end Go.Proofs.Ytfihaaciaobolaa
