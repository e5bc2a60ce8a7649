/-
  RedoRefused, walked. No conditions.
-/
import Derived.Test.YtejhdmpobaffcaaWMake
namespace Go.Proofs.Ytejhdmpobaffcaa
open Go.RowKit Go.Flo
set_option maxRecDepth 100000

def badTo (n k : Nat) (E : Nat → Ent) (i : Nat) : Bool := decide (16 < k) || (List.range i).any fun j => decide ((E j).a < 40) || decide ((n : Int) ≤ (E j).a)
theorem badTo_succ (n k : Nat) (E : Nat → Ent) (i : Nat) : badTo n k E (i + 1) = (badTo n k E i || (decide ((E i).a < 40) || decide ((n : Int) ≤ (E i).a))) := by
  unfold badTo
  rw [List.range_succ, List.any_append]
  simp [Bool.or_assoc]
theorem badTo_false {n k : Nat} {E : Nat → Ent} : badTo n k E k = false ↔ k ≤ 16 ∧ ∀ j, j < k → 40 ≤ (E j).a ∧ (E j).a < n := by
  simp [badTo]

theorem laid_now0 {n : Nat} {f : Nat → Int} (h : 0 < n) : (laidS n f).now 0 = f 0 := (laidS_pic n f h).1

theorem refused_facts {n k : Nat} {f : Nat → Int} {E : Nat → Ent} (hn : 40 ≤ n) (hn2 : n ≤ 80) (hEB : EB E k) :
    (badTo n k E k = false → f 0 = 0 → (writeR (laidS n f) 0 40 E k).2 = 0 ∧ (k = 0 → (writeR (laidS n f) 0 40 E k).1 = laidS n f)) ∧
    ((badTo n k E k = false → f 0 ≠ 0) → (writeR (laidS n f) 0 40 E k).2 ≠ 0 ∧ (writeR (laidS n f) 0 40 E k).1 = laidS n f) := by
  obtain ⟨b1, b2, b3, b4⟩ := laidS_facts n f
  have hm : mayB (laidS n f).n 0 40 = true := by rw [b3]; simp [mayB]; omega
  have hnow : (laidS n f).now (0 : Int).toNat = f 0 := laid_now0 (by omega)
  have hl : leavesB (laidS n f).n 0 40 E k = true ↔ ∀ j, j < k → 40 ≤ (E j).a ∧ (E j).a < n := by
    rw [leavesB_true, b3]
    constructor
    · intro h j hj
      have := (atB_true (by omega) (hEB j hj).1 (hEB j hj).2.1).1 (h j hj)
      omega
    · intro h j hj
      have := h j hj
      exact (atB_true (by omega) (hEB j hj).1 (hEB j hj).2.1).2 (by omega)
  have hh : holdsB 0 40 (k : Int) = true ↔ k ≤ 16 := by
    simp [holdsB]; omega
  constructor
  · intro h0 hf0
    obtain ⟨e1, e2⟩ := badTo_false.1 h0
    unfold writeR
    rw [if_neg (by rw [hm]; simp), if_neg (by rw [hh.2 e1]; simp), if_neg (by rw [hl.2 e2]; simp), if_neg (by rw [b1.1]; simp), if_neg (by rw [hnow, hf0]; simp)]
    by_cases hk : k = 0
    · rw [if_pos hk]; exact ⟨rfl, fun _ => rfl⟩
    · rw [if_neg hk]
      have hlog : LogOk n 0 40 E k := ⟨by omega, by omega, by omega, fun j hj => by have := e2 j hj; omega⟩
      exact ⟨(play_calm (by rw [b3]; exact wrOps_ok hlog) b1).1, fun h => absurd h hk⟩
  · intro h
    unfold writeR
    rw [if_neg (by rw [hm]; simp)]
    by_cases e1 : holdsB 0 40 (k : Int) = true
    · rw [if_neg (by rw [e1]; simp)]
      by_cases e2 : leavesB (laidS n f).n 0 40 E k = true
      · rw [if_neg (by rw [e2]; simp), if_neg (by rw [b1.1]; simp), if_pos (by rw [hnow]; exact h (badTo_false.2 ⟨hh.1 e1, hl.1 e2⟩))]
        exact ⟨by simp, rfl⟩
      · rw [if_pos (by simpa using e2)]
        exact ⟨by simp, rfl⟩
    · rw [if_pos (by simpa using e1)]
      exact ⟨by simp, rfl⟩

def RfRel (w : World) (n k : Nat) (E : Nat → Ent) (x y : Value) (wr : World) : Prop := ∃ i : Nat, x = .int .i64 i ∧ y = .bool (badTo n k E i) ∧ i ≤ k ∧ Keep [] w wr

/-- The words that are laid. -/
def allF (K : Nat) (f : Nat → Int) : Nat → Int := cat K (fun _ => 0) f

set_option maxHeartbeats 8000000 in
theorem walk_refused (w : World) (A0 : Option Addr) (n0 cap0 : Nat) (f : Nat → Int) (hW : Wds w A0 n0 cap0 f) (hf : ∀ j, 0 ≤ f j ∧ f j < 18446744073709551616) (A1 : Option Addr) (n1 cap1 : Nat) (E : Nat → Ent) (hE : Ents w [] A1 n1 cap1 E) (hEB : EB E n1) (mark : Int) (hmk : 0 ≤ mark ∧ mark < 18446744073709551616) :
    Calls Try.prog 9 #[.slice A0 n0 cap0, .slice A1 n1 cap1, .int .u64 mark] w fun e w' => e = .returned (.bool true) ∧ Keep [] w w' := by
  obtain ⟨i0, hi0, hz0, hz1, hz2⟩ := info_parts parts28
  have hm1 : (Instr.makeSlice 25 (.int .i64 40) (.int .i64 40)).run Try.prog w = _ := mk_words 40 (by omega) w
  have hmr := made_row w 40 (by omega)
  have k0 : Keep [] w (w.alloc (.cells (madeCells (Value.int .u64 0).cells (40 * 1)) 44)) := Keep.alloc _ _
  have hcap0 := hW.cap
  have hnc0 := hW.nc
  have hcap1 := hE.cap
  have hnc1 := hE.nc
  have hs0 : w.heap.size ≤ (w.alloc (.cells (madeCells (Value.int .u64 0).cells (40 * 1)) 44)).heap.size := by simp
  generalize madeCells (Value.int .u64 0).cells (40 * 1) = Z at *
  have HMR := Lib.hid hmr
  have HW := Lib.hid hW
  have HE := Lib.hid hE
  clear hmr hW hE
  obtain ⟨m, hm, hm40, hcase⟩ : ∃ m, m ≤ n0 ∧ m ≤ 40 ∧ ((40 < n0 ∧ m = 40) ∨ (¬ 40 < n0 ∧ m = n0)) := by
    by_cases h : 40 < n0
    · exact ⟨40, by omega, by omega, .inl ⟨h, rfl⟩⟩
    · exact ⟨n0, by omega, by omega, .inr ⟨h, rfl⟩⟩
  have hWm := Lib.hid ((HW.out.sub hm).keep k0)
  have hcl : (rowR 40 fun _ => 0) ++ rowR m f = rowR (40 + m) (allF 40 f) := rowR_cat 40 m _ f
  have HCL := Lib.hid hcl
  clear hcl
  go_enter Try.func9, Try.ntmps9
  rcases hcase with ⟨h40, hmm⟩ | ⟨h40, hmm⟩
  · obtain ⟨b, o, hA0, hb, _⟩ := HW.out.cells (by omega)
    subst hA0
    have h40' : (40 : Int) < (n0 : Int) := by omega
    go_wp2_with (at_builtin; refine wpList_append_src rfl (.tmp 20) (.tmp 21) 25 rfl w.heap.size 44 i0 (.int .u64 0) 1 8 Try.underlying25 hi0 hz0 hz1 hz2 rfl (by omega) _ 40 (rowR 40 fun _ => 0) rfl HMR.out (some ⟨b, o, none⟩) 40 cap0 (rowR 40 f) rfl (by rw [rowR_len]) (by simp) (by have := hWm.out.news; rwa [hmm] at this) (rowR_one _ _) (by simp [maxLen]) (by omega) hs0 ?_)
    intro v4 w4 hown4 hgrow4
    have hrow : w4.ownsRow w.heap.size 44 1 v4 (40 + m) (rowR (40 + m) (allF 40 f)) := by
      rw [← HCL.out, hmm]
      exact hown4
    have hk4 : Keep [] w w4 := k0.into (Keep.grown (own := [w.heap.size]) hgrow4 (fun k _ e => by simp [Value.ownBlock] at e; simp [e])) (by simp)
    clear hown4 hgrow4 h40' hWm
    obtain ⟨G, capG, rfl, hR, hG⟩ := rowR_row hrow (by omega)
    have hG0 := hG
    generalize hnn : 40 + m = n at *
    have hnb : 40 ≤ n ∧ n ≤ 80 := by omega
    have c0 := hR.cell (show 0 < n by omega)
    have z0 := hR.frozen 0
    have hGc := hR.cap_le
    have hGm := hR.cap_max
    unfold maxLen at hGm
    obtain ⟨F, hF⟩ : ∃ F : Nat → Int, F = fun j => if j = 0 then mark else allF 40 f j := ⟨_, rfl⟩
    have hR3 : Row (w4.setCell ⟨G, 0, none⟩ (.int .u64 mark)) 44 G n capG (u64 F) := (hR.set_ 0 _).congr (fun j _ => by rw [hF]; unfold u64; dsimp only; split <;> rfl)
    have hK5 : Keep [G] w4 (w4.setCell ⟨G, 0, none⟩ (.int .u64 mark)) := Keep.setCell _ _ (by simp) _
    have hk6 : Keep [] w (w4.setCell ⟨G, 0, none⟩ (.int .u64 mark)) := hk4.into hK5 (by simpa using hG0)
    have HR3 := Lib.hid hR3
    have hld := laid_any _ _ n capG _ (Wds.row hR3) (by omega)
    have HHF := Lib.hid (show F 0 = mark by rw [hF]; rfl)
    clear hF
    clear hR hR3 hK5 hrow hnn
    go_wp2_with fail
    generalize w4.setCell ⟨G, 0, none⟩ (.int .u64 mark) = w5 at *
    (with_reducible refine hld.mono ?_)
    rintro e w6 ⟨L, T, rfl, hD, hT, hLf, hTf, hTl, hK6⟩
    have hR6 := HR3.out.keep hK6 (by simp)
    have hGL : G ∉ L.own := fun hm => by have := hLf G hm; have := HR3.out.lt; omega
    have hk7 := hk6.trans hK6
    have hL7 : ∀ k ∈ L.own, w.heap.size ≤ k := fun k hk => by have := hLf k hk; have := hk6.size; omega
    obtain ⟨b1, b2, b3, b4⟩ := laidS_facts n F
    have hsn : 0 ≤ (laidS n F).steps ∧ (laidS n F).steps ≤ 1000 := by rw [b2]; unfold nl; omega
    have HPIC := Lib.hid (fun j (hj : j < n) => laidS_pic n F hj)
    clear hld hT hLf hTf hTl c0 z0 HR3 hK6 b1 b2 b4 hk6 hk4
    have HB3 := Lib.hid b3
    have HD := Lib.hid hD
    have hst := steps_any w6 L _ hD
    clear b3 hD
    generalize hSS : laidS n F = S at *
    have HSS := Lib.hid hSS
    clear hSS
    go_wp2_with fail
    (with_reducible refine hst.mono ?_)
    rintro e w7 ⟨rfl, rfl⟩
    clear hst
    obtain ⟨k, hk, hk60, hcase⟩ : ∃ k, k ≤ n1 ∧ k ≤ 60 ∧ ((60 < n1 ∧ k = 60) ∨ (¬ 60 < n1 ∧ k = n1)) := by
      by_cases h : 60 < n1
      · exact ⟨60, by omega, by omega, .inl ⟨h, rfl⟩⟩
      · exact ⟨n1, by omega, by omega, .inr ⟨h, rfl⟩⟩
    have hEBk : EB E k := fun j hj => hEB j (by omega)
    have hEk := Lib.hid (HE.out.sub hk)
    have hwr := fun W (hk0 : Keep [] w6 W) => write_any W L S (HD.out.keep hk0 (by simp)) 0 40 A1 k cap1 E ((hEk.out.lift (hk7.trans hk0) hL7)) hEBk (by omega) (by omega)
    have HWR := Lib.hid hwr
    have hfacts := refused_facts (f := F) (E := E) hnb.1 hnb.2 hEBk
    rw [HSS.out] at hfacts
    have HFA := Lib.hid hfacts
    clear hfacts hwr
    rcases hcase with ⟨h60, hkk⟩ | ⟨h60, hkk⟩
    · obtain ⟨b, o, hA1, hb, _⟩ := HE.out.cells (by omega)
      subst hA1 hkk
      have h60' : (60 : Int) < (n1 : Int) := by omega
      go_wp2_with fail
      go_loopw [43, 11] (fun x y wr => RfRel w6 n 60 E x y wr) (fun x _ _ => 60 - (intOf x).toNat)
      case atStart => exact ⟨0, rfl, by first | (simp [badTo]; done) | (simp [badTo]; omega), by omega, Keep.refl _ _⟩
      case round =>
        obtain ⟨i, rfl, rfl, hik, hK8⟩ := hrel
        by_cases hlt : i < 60
        · obtain ⟨b', o', hA', _, hb', hcc⟩ := (hEk.out.lift (own := []) (hk7.trans hK8) (by simp)).cells (by omega)
          obtain ⟨rfl, rfl⟩ : b = b' ∧ o = o' := by simpa using hA'
          obtain ⟨c0, c1⟩ := hcc i hlt
          have hlt' : (i : Int) < 60 := by omega
          have ki : Keep [] wr (wr.alloc (.cells #[.int .i64 (E i).a, .int .u64 (E i).v] 46)) := Keep.alloc _ _
          have HSUC := Lib.hid (badTo_succ n 60 E i)
          have hK9 := hK8.trans ki
          clear hcc
          cases hbd : badTo n 60 E i
          · by_cases h1 : (E i).a < 40
            · have HB := Lib.hid (show badTo n 60 E (i + 1) = true by rw [HSUC.out, hbd]; simp [h1])
              clear hbd HSUC
              go_wp2_with fail
              exact ⟨⟨i + 1, by go_num, by rw [HB.out], by omega, hK9⟩, by simp [intOf]; omega⟩
            · by_cases h2 : (n : Int) ≤ (E i).a
              · have HB := Lib.hid (show badTo n 60 E (i + 1) = true by rw [HSUC.out, hbd]; simp [h2])
                clear hbd HSUC
                go_wp2_with fail
                exact ⟨⟨i + 1, by go_num, by rw [HB.out], by omega, hK9⟩, by simp [intOf]; omega⟩
              · have HB := Lib.hid (show badTo n 60 E (i + 1) = false by rw [HSUC.out, hbd]; simp [h1]; omega)
                clear hbd HSUC
                go_wp2_with fail
                exact ⟨⟨i + 1, by go_num, by rw [HB.out], by omega, hK9⟩, by simp [intOf]; omega⟩
          · have HB := Lib.hid (show badTo n 60 E (i + 1) = true by rw [HSUC.out, hbd]; simp)
            clear hbd HSUC
            go_wp2_with fail
            exact ⟨⟨i + 1, by go_num, by rw [HB.out], by omega, hK9⟩, by simp [intOf]; omega⟩
        · have hik2 : i = 60 := by omega
          have hnl : ¬ (i : Int) < 60 := by omega
          have hwr := HWR.out wr hK8
          have hk9 := hk7.trans hK8
          have HR8 := Lib.hid (hR6.keep hK8 (by simp))
          obtain ⟨f1, f2⟩ := HFA.out
          rw [← hik2] at f1 f2
          have HF1 := Lib.hid f1
          have HF2 := Lib.hid f2
          clear f1 f2 HFA HWR hEk HE hEBk hR6
          generalize hQ : (writeR S 0 40 E 60) = Q at *
          rw [hik2] at HF1 HF2
          rw [hQ] at HF1 HF2
          rw [← hik2] at HF1 HF2
          obtain ⟨Q1, Q2⟩ := Q
          dsimp only at hwr HF1 HF2
          clear hQ
          have hD8 : ∀ w8, Dev w8 L Q1 → True := fun _ _ => trivial
          by_cases hgd : badTo n 60 E i = false ∧ mark = 0
          · obtain ⟨hbd, rfl⟩ := hgd
            obtain ⟨rfl, hq1⟩ := HF1.out (by rw [← hbd, hik2]) HHF.out
            rw [hbd]
            have HQ1 := Lib.hid hq1
            clear hbd hq1 HF1 HF2
            go_wp2_with fail
            (with_reducible refine hwr.mono ?_)
            rintro e w8 ⟨rfl, hD8, hK9⟩
            have hk10 := hk9.into hK9 hL7
            clear hwr
            have haw := awake_any w8
            by_cases hk0 : 60 = 0
            · exact absurd hk0 (by omega)
            · have hk1 : (0 : Int) < 60 := by omega
              go_wp2_with fail
              (with_reducible refine haw.mono ?_)
              rintro e w10 ⟨rfl, hK10⟩
              go_wp2
              go_ret
              exact ⟨rfl, hk10.trans hK10⟩
          · have hn2 := HF2.out (fun h h0 => hgd ⟨by rw [← h, hik2], by rw [← h0]; exact HHF.out.symm⟩)
            obtain ⟨hq2, rfl⟩ := hn2
            have hqb : (Q2 != 0) = true := by simpa using hq2
            clear HF1 HF2
            have hrest : ∀ w8, Dev w8 L Q1 → Keep L.own wr w8 → True := fun _ _ _ => trivial
            clear hrest
            cases hbd : badTo n 60 E i
            · have hm0 : mark ≠ 0 := fun h => hgd ⟨hbd, h⟩
              have hmb : (mark == 0) = false := by simpa using hm0
              clear hgd hbd
              go_wp2_with fail
              (with_reducible refine hwr.mono ?_)
              rintro e w8 ⟨rfl, hD8, hK9⟩
              have hk10 := hk9.into hK9 hL7
              have hR10 := HR8.out.keep hK9 hGL
              clear hwr
              have hst := steps_any w8 L _ hD8
              go_wp2_with fail
              (with_reducible refine hst.mono ?_)
              rintro e w9 ⟨rfl, rfl⟩
              clear hst
              have hwd := words_any w8 L _ hD8
              go_wp2_with fail
              (with_reducible refine hwd.mono ?_)
              rintro e w9 ⟨g, capg, rfl, hRg, _, hK11⟩
              rw [HB3.out] at hRg
              have hsm := same_rows w9 44 44 g n capg G capG Q1.sure F (by omega) hRg (hR10.keep hK11 (by simp)) (fun j hj => (HPIC.out j hj).2.1)
              have hSn := HB3.out
              clear hwd
              rw [hSn]
              go_wp2_with fail
              (with_reducible refine hsm.mono ?_)
              rintro e w10 ⟨rfl, hd⟩
              have haw := awake_any w10
              clear hsm
              go_wp2_with fail
              (with_reducible refine haw.mono ?_)
              rintro e w11 ⟨rfl, hK12⟩
              go_wp2
              go_ret
              exact ⟨rfl, ((hk10.trans hK11).trans (Keep.dr hd)).trans hK12⟩
            · clear hgd hbd
              go_wp2_with fail
              (with_reducible refine hwr.mono ?_)
              rintro e w8 ⟨rfl, hD8, hK9⟩
              have hk10 := hk9.into hK9 hL7
              have hR10 := HR8.out.keep hK9 hGL
              clear hwr
              have hst := steps_any w8 L _ hD8
              go_wp2_with fail
              (with_reducible refine hst.mono ?_)
              rintro e w9 ⟨rfl, rfl⟩
              clear hst
              have hwd := words_any w8 L _ hD8
              go_wp2_with fail
              (with_reducible refine hwd.mono ?_)
              rintro e w9 ⟨g, capg, rfl, hRg, _, hK11⟩
              rw [HB3.out] at hRg
              have hsm := same_rows w9 44 44 g n capg G capG Q1.sure F (by omega) hRg (hR10.keep hK11 (by simp)) (fun j hj => (HPIC.out j hj).2.1)
              have hSn := HB3.out
              clear hwd
              rw [hSn]
              go_wp2_with fail
              (with_reducible refine hsm.mono ?_)
              rintro e w10 ⟨rfl, hd⟩
              have haw := awake_any w10
              clear hsm
              go_wp2_with fail
              (with_reducible refine haw.mono ?_)
              rintro e w11 ⟨rfl, hK12⟩
              go_wp2
              go_ret
              exact ⟨rfl, ((hk10.trans hK11).trans (Keep.dr hd)).trans hK12⟩
    · have h60' : ¬ (60 : Int) < (n1 : Int) := by omega
      subst hkk
      go_wp2_with fail
      go_loopw [43, 11] (fun x y wr => RfRel w6 n k E x y wr) (fun x _ _ => k - (intOf x).toNat)
      case atStart => exact ⟨0, rfl, by first | (simp [badTo]; done) | (simp [badTo]; omega), by omega, Keep.refl _ _⟩
      case round =>
        obtain ⟨i, rfl, rfl, hik, hK8⟩ := hrel
        by_cases hlt : i < k
        · obtain ⟨b', o', hA', _, hb', hcc⟩ := (hEk.out.lift (own := []) (hk7.trans hK8) (by simp)).cells (by omega)
          subst hA'
          obtain ⟨c0, c1⟩ := hcc i hlt
          have hlt' : (i : Int) < (k : Int) := by omega
          have ki : Keep [] wr (wr.alloc (.cells #[.int .i64 (E i).a, .int .u64 (E i).v] 46)) := Keep.alloc _ _
          have HSUC := Lib.hid (badTo_succ n k E i)
          have hK9 := hK8.trans ki
          clear hcc
          cases hbd : badTo n k E i
          · by_cases h1 : (E i).a < 40
            · have HB := Lib.hid (show badTo n k E (i + 1) = true by rw [HSUC.out, hbd]; simp [h1])
              clear hbd HSUC
              go_wp2_with fail
              exact ⟨⟨i + 1, by go_num, by rw [HB.out], by omega, hK9⟩, by simp [intOf]; omega⟩
            · by_cases h2 : (n : Int) ≤ (E i).a
              · have HB := Lib.hid (show badTo n k E (i + 1) = true by rw [HSUC.out, hbd]; simp [h2])
                clear hbd HSUC
                go_wp2_with fail
                exact ⟨⟨i + 1, by go_num, by rw [HB.out], by omega, hK9⟩, by simp [intOf]; omega⟩
              · have HB := Lib.hid (show badTo n k E (i + 1) = false by rw [HSUC.out, hbd]; simp [h1]; omega)
                clear hbd HSUC
                go_wp2_with fail
                exact ⟨⟨i + 1, by go_num, by rw [HB.out], by omega, hK9⟩, by simp [intOf]; omega⟩
          · have HB := Lib.hid (show badTo n k E (i + 1) = true by rw [HSUC.out, hbd]; simp)
            clear hbd HSUC
            go_wp2_with fail
            exact ⟨⟨i + 1, by go_num, by rw [HB.out], by omega, hK9⟩, by simp [intOf]; omega⟩
        · have hik2 : i = k := by omega
          have hnl : ¬ (i : Int) < (k : Int) := by omega
          have hwr := HWR.out wr hK8
          have hk9 := hk7.trans hK8
          have HR8 := Lib.hid (hR6.keep hK8 (by simp))
          obtain ⟨f1, f2⟩ := HFA.out
          rw [← hik2] at f1 f2
          have HF1 := Lib.hid f1
          have HF2 := Lib.hid f2
          clear f1 f2 HFA HWR hEk HE hEBk hR6
          generalize hQ : (writeR S 0 40 E k) = Q at *
          rw [hik2] at HF1 HF2
          rw [hQ] at HF1 HF2
          rw [← hik2] at HF1 HF2
          obtain ⟨Q1, Q2⟩ := Q
          dsimp only at hwr HF1 HF2
          clear hQ
          have hD8 : ∀ w8, Dev w8 L Q1 → True := fun _ _ => trivial
          by_cases hgd : badTo n k E i = false ∧ mark = 0
          · obtain ⟨hbd, rfl⟩ := hgd
            obtain ⟨rfl, hq1⟩ := HF1.out (by rw [← hbd, hik2]) HHF.out
            rw [hbd]
            have HQ1 := Lib.hid hq1
            clear hbd hq1 HF1 HF2
            go_wp2_with fail
            (with_reducible refine hwr.mono ?_)
            rintro e w8 ⟨rfl, hD8, hK9⟩
            have hk10 := hk9.into hK9 hL7
            clear hwr
            have haw := awake_any w8
            by_cases hk0 : k = 0
            · have hst := steps_any w8 L _ hD8
              rw [HQ1.out (by omega)] at hst
              subst hk0
              clear HQ1
              go_wp2_with fail
              (with_reducible refine hst.mono ?_)
              rintro e w9 ⟨rfl, rfl⟩
              clear hst
              go_wp2_with fail
              (with_reducible refine haw.mono ?_)
              rintro e w10 ⟨rfl, hK10⟩
              go_wp2
              go_ret
              exact ⟨rfl, hk10.trans hK10⟩
            · have hk1 : (0 : Int) < (k : Int) := by omega
              go_wp2_with fail
              (with_reducible refine haw.mono ?_)
              rintro e w10 ⟨rfl, hK10⟩
              go_wp2
              go_ret
              exact ⟨rfl, hk10.trans hK10⟩
          · have hn2 := HF2.out (fun h h0 => hgd ⟨by rw [← h, hik2], by rw [← h0]; exact HHF.out.symm⟩)
            obtain ⟨hq2, rfl⟩ := hn2
            have hqb : (Q2 != 0) = true := by simpa using hq2
            clear HF1 HF2
            have hrest : ∀ w8, Dev w8 L Q1 → Keep L.own wr w8 → True := fun _ _ _ => trivial
            clear hrest
            cases hbd : badTo n k E i
            · have hm0 : mark ≠ 0 := fun h => hgd ⟨hbd, h⟩
              have hmb : (mark == 0) = false := by simpa using hm0
              clear hgd hbd
              go_wp2_with fail
              (with_reducible refine hwr.mono ?_)
              rintro e w8 ⟨rfl, hD8, hK9⟩
              have hk10 := hk9.into hK9 hL7
              have hR10 := HR8.out.keep hK9 hGL
              clear hwr
              have hst := steps_any w8 L _ hD8
              go_wp2_with fail
              (with_reducible refine hst.mono ?_)
              rintro e w9 ⟨rfl, rfl⟩
              clear hst
              have hwd := words_any w8 L _ hD8
              go_wp2_with fail
              (with_reducible refine hwd.mono ?_)
              rintro e w9 ⟨g, capg, rfl, hRg, _, hK11⟩
              rw [HB3.out] at hRg
              have hsm := same_rows w9 44 44 g n capg G capG Q1.sure F (by omega) hRg (hR10.keep hK11 (by simp)) (fun j hj => (HPIC.out j hj).2.1)
              have hSn := HB3.out
              clear hwd
              rw [hSn]
              go_wp2_with fail
              (with_reducible refine hsm.mono ?_)
              rintro e w10 ⟨rfl, hd⟩
              have haw := awake_any w10
              clear hsm
              go_wp2_with fail
              (with_reducible refine haw.mono ?_)
              rintro e w11 ⟨rfl, hK12⟩
              go_wp2
              go_ret
              exact ⟨rfl, ((hk10.trans hK11).trans (Keep.dr hd)).trans hK12⟩
            · clear hgd hbd
              go_wp2_with fail
              (with_reducible refine hwr.mono ?_)
              rintro e w8 ⟨rfl, hD8, hK9⟩
              have hk10 := hk9.into hK9 hL7
              have hR10 := HR8.out.keep hK9 hGL
              clear hwr
              have hst := steps_any w8 L _ hD8
              go_wp2_with fail
              (with_reducible refine hst.mono ?_)
              rintro e w9 ⟨rfl, rfl⟩
              clear hst
              have hwd := words_any w8 L _ hD8
              go_wp2_with fail
              (with_reducible refine hwd.mono ?_)
              rintro e w9 ⟨g, capg, rfl, hRg, _, hK11⟩
              rw [HB3.out] at hRg
              have hsm := same_rows w9 44 44 g n capg G capG Q1.sure F (by omega) hRg (hR10.keep hK11 (by simp)) (fun j hj => (HPIC.out j hj).2.1)
              have hSn := HB3.out
              clear hwd
              rw [hSn]
              go_wp2_with fail
              (with_reducible refine hsm.mono ?_)
              rintro e w10 ⟨rfl, hd⟩
              have haw := awake_any w10
              clear hsm
              go_wp2_with fail
              (with_reducible refine haw.mono ?_)
              rintro e w11 ⟨rfl, hK12⟩
              go_wp2
              go_ret
              exact ⟨rfl, ((hk10.trans hK11).trans (Keep.dr hd)).trans hK12⟩
  · have h40' : ¬ (40 : Int) < (n0 : Int) := by omega
    subst hmm
    go_wp2_with (at_builtin; refine wpList_append_src rfl (.tmp 20) (.tmp 21) 25 rfl w.heap.size 44 i0 (.int .u64 0) 1 8 Try.underlying25 hi0 hz0 hz1 hz2 rfl (by omega) _ 40 (rowR 40 fun _ => 0) rfl HMR.out A0 m cap0 (rowR m f) rfl (by rw [rowR_len]; omega) hWm.out.nil hWm.out.news (rowR_one _ _) (by simp [maxLen]; omega) (by omega) hs0 ?_)
    intro v4 w4 hown4 hgrow4
    have hrow : w4.ownsRow w.heap.size 44 1 v4 (40 + m) (rowR (40 + m) (allF 40 f)) := by
      rw [← HCL.out]
      exact hown4
    have hk4 : Keep [] w w4 := k0.into (Keep.grown (own := [w.heap.size]) hgrow4 (fun k _ e => by simp [Value.ownBlock] at e; simp [e])) (by simp)
    clear hown4 hgrow4 h40' hWm
    obtain ⟨G, capG, rfl, hR, hG⟩ := rowR_row hrow (by omega)
    have hG0 := hG
    generalize hnn : 40 + m = n at *
    have hnb : 40 ≤ n ∧ n ≤ 80 := by omega
    have c0 := hR.cell (show 0 < n by omega)
    have z0 := hR.frozen 0
    have hGc := hR.cap_le
    have hGm := hR.cap_max
    unfold maxLen at hGm
    obtain ⟨F, hF⟩ : ∃ F : Nat → Int, F = fun j => if j = 0 then mark else allF 40 f j := ⟨_, rfl⟩
    have hR3 : Row (w4.setCell ⟨G, 0, none⟩ (.int .u64 mark)) 44 G n capG (u64 F) := (hR.set_ 0 _).congr (fun j _ => by rw [hF]; unfold u64; dsimp only; split <;> rfl)
    have hK5 : Keep [G] w4 (w4.setCell ⟨G, 0, none⟩ (.int .u64 mark)) := Keep.setCell _ _ (by simp) _
    have hk6 : Keep [] w (w4.setCell ⟨G, 0, none⟩ (.int .u64 mark)) := hk4.into hK5 (by simpa using hG0)
    have HR3 := Lib.hid hR3
    have hld := laid_any _ _ n capG _ (Wds.row hR3) (by omega)
    have HHF := Lib.hid (show F 0 = mark by rw [hF]; rfl)
    clear hF
    clear hR hR3 hK5 hrow hnn
    go_wp2_with fail
    generalize w4.setCell ⟨G, 0, none⟩ (.int .u64 mark) = w5 at *
    (with_reducible refine hld.mono ?_)
    rintro e w6 ⟨L, T, rfl, hD, hT, hLf, hTf, hTl, hK6⟩
    have hR6 := HR3.out.keep hK6 (by simp)
    have hGL : G ∉ L.own := fun hm => by have := hLf G hm; have := HR3.out.lt; omega
    have hk7 := hk6.trans hK6
    have hL7 : ∀ k ∈ L.own, w.heap.size ≤ k := fun k hk => by have := hLf k hk; have := hk6.size; omega
    obtain ⟨b1, b2, b3, b4⟩ := laidS_facts n F
    have hsn : 0 ≤ (laidS n F).steps ∧ (laidS n F).steps ≤ 1000 := by rw [b2]; unfold nl; omega
    have HPIC := Lib.hid (fun j (hj : j < n) => laidS_pic n F hj)
    clear hld hT hLf hTf hTl c0 z0 HR3 hK6 b1 b2 b4 hk6 hk4
    have HB3 := Lib.hid b3
    have HD := Lib.hid hD
    have hst := steps_any w6 L _ hD
    clear b3 hD
    generalize hSS : laidS n F = S at *
    have HSS := Lib.hid hSS
    clear hSS
    go_wp2_with fail
    (with_reducible refine hst.mono ?_)
    rintro e w7 ⟨rfl, rfl⟩
    clear hst
    obtain ⟨k, hk, hk60, hcase⟩ : ∃ k, k ≤ n1 ∧ k ≤ 60 ∧ ((60 < n1 ∧ k = 60) ∨ (¬ 60 < n1 ∧ k = n1)) := by
      by_cases h : 60 < n1
      · exact ⟨60, by omega, by omega, .inl ⟨h, rfl⟩⟩
      · exact ⟨n1, by omega, by omega, .inr ⟨h, rfl⟩⟩
    have hEBk : EB E k := fun j hj => hEB j (by omega)
    have hEk := Lib.hid (HE.out.sub hk)
    have hwr := fun W (hk0 : Keep [] w6 W) => write_any W L S (HD.out.keep hk0 (by simp)) 0 40 A1 k cap1 E ((hEk.out.lift (hk7.trans hk0) hL7)) hEBk (by omega) (by omega)
    have HWR := Lib.hid hwr
    have hfacts := refused_facts (f := F) (E := E) hnb.1 hnb.2 hEBk
    rw [HSS.out] at hfacts
    have HFA := Lib.hid hfacts
    clear hfacts hwr
    rcases hcase with ⟨h60, hkk⟩ | ⟨h60, hkk⟩
    · obtain ⟨b, o, hA1, hb, _⟩ := HE.out.cells (by omega)
      subst hA1 hkk
      have h60' : (60 : Int) < (n1 : Int) := by omega
      go_wp2_with fail
      go_loopw [43, 11] (fun x y wr => RfRel w6 n 60 E x y wr) (fun x _ _ => 60 - (intOf x).toNat)
      case atStart => exact ⟨0, rfl, by first | (simp [badTo]; done) | (simp [badTo]; omega), by omega, Keep.refl _ _⟩
      case round =>
        obtain ⟨i, rfl, rfl, hik, hK8⟩ := hrel
        by_cases hlt : i < 60
        · obtain ⟨b', o', hA', _, hb', hcc⟩ := (hEk.out.lift (own := []) (hk7.trans hK8) (by simp)).cells (by omega)
          obtain ⟨rfl, rfl⟩ : b = b' ∧ o = o' := by simpa using hA'
          obtain ⟨c0, c1⟩ := hcc i hlt
          have hlt' : (i : Int) < 60 := by omega
          have ki : Keep [] wr (wr.alloc (.cells #[.int .i64 (E i).a, .int .u64 (E i).v] 46)) := Keep.alloc _ _
          have HSUC := Lib.hid (badTo_succ n 60 E i)
          have hK9 := hK8.trans ki
          clear hcc
          cases hbd : badTo n 60 E i
          · by_cases h1 : (E i).a < 40
            · have HB := Lib.hid (show badTo n 60 E (i + 1) = true by rw [HSUC.out, hbd]; simp [h1])
              clear hbd HSUC
              go_wp2_with fail
              exact ⟨⟨i + 1, by go_num, by rw [HB.out], by omega, hK9⟩, by simp [intOf]; omega⟩
            · by_cases h2 : (n : Int) ≤ (E i).a
              · have HB := Lib.hid (show badTo n 60 E (i + 1) = true by rw [HSUC.out, hbd]; simp [h2])
                clear hbd HSUC
                go_wp2_with fail
                exact ⟨⟨i + 1, by go_num, by rw [HB.out], by omega, hK9⟩, by simp [intOf]; omega⟩
              · have HB := Lib.hid (show badTo n 60 E (i + 1) = false by rw [HSUC.out, hbd]; simp [h1]; omega)
                clear hbd HSUC
                go_wp2_with fail
                exact ⟨⟨i + 1, by go_num, by rw [HB.out], by omega, hK9⟩, by simp [intOf]; omega⟩
          · have HB := Lib.hid (show badTo n 60 E (i + 1) = true by rw [HSUC.out, hbd]; simp)
            clear hbd HSUC
            go_wp2_with fail
            exact ⟨⟨i + 1, by go_num, by rw [HB.out], by omega, hK9⟩, by simp [intOf]; omega⟩
        · have hik2 : i = 60 := by omega
          have hnl : ¬ (i : Int) < 60 := by omega
          have hwr := HWR.out wr hK8
          have hk9 := hk7.trans hK8
          have HR8 := Lib.hid (hR6.keep hK8 (by simp))
          obtain ⟨f1, f2⟩ := HFA.out
          rw [← hik2] at f1 f2
          have HF1 := Lib.hid f1
          have HF2 := Lib.hid f2
          clear f1 f2 HFA HWR hEk HE hEBk hR6
          generalize hQ : (writeR S 0 40 E 60) = Q at *
          rw [hik2] at HF1 HF2
          rw [hQ] at HF1 HF2
          rw [← hik2] at HF1 HF2
          obtain ⟨Q1, Q2⟩ := Q
          dsimp only at hwr HF1 HF2
          clear hQ
          have hD8 : ∀ w8, Dev w8 L Q1 → True := fun _ _ => trivial
          by_cases hgd : badTo n 60 E i = false ∧ mark = 0
          · obtain ⟨hbd, rfl⟩ := hgd
            obtain ⟨rfl, hq1⟩ := HF1.out (by rw [← hbd, hik2]) HHF.out
            rw [hbd]
            have HQ1 := Lib.hid hq1
            clear hbd hq1 HF1 HF2
            go_wp2_with fail
            (with_reducible refine hwr.mono ?_)
            rintro e w8 ⟨rfl, hD8, hK9⟩
            have hk10 := hk9.into hK9 hL7
            clear hwr
            have haw := awake_any w8
            by_cases hk0 : 60 = 0
            · exact absurd hk0 (by omega)
            · have hk1 : (0 : Int) < 60 := by omega
              go_wp2_with fail
              (with_reducible refine haw.mono ?_)
              rintro e w10 ⟨rfl, hK10⟩
              go_wp2
              go_ret
              exact ⟨rfl, hk10.trans hK10⟩
          · have hn2 := HF2.out (fun h h0 => hgd ⟨by rw [← h, hik2], by rw [← h0]; exact HHF.out.symm⟩)
            obtain ⟨hq2, rfl⟩ := hn2
            have hqb : (Q2 != 0) = true := by simpa using hq2
            clear HF1 HF2
            have hrest : ∀ w8, Dev w8 L Q1 → Keep L.own wr w8 → True := fun _ _ _ => trivial
            clear hrest
            cases hbd : badTo n 60 E i
            · have hm0 : mark ≠ 0 := fun h => hgd ⟨hbd, h⟩
              have hmb : (mark == 0) = false := by simpa using hm0
              clear hgd hbd
              go_wp2_with fail
              (with_reducible refine hwr.mono ?_)
              rintro e w8 ⟨rfl, hD8, hK9⟩
              have hk10 := hk9.into hK9 hL7
              have hR10 := HR8.out.keep hK9 hGL
              clear hwr
              have hst := steps_any w8 L _ hD8
              go_wp2_with fail
              (with_reducible refine hst.mono ?_)
              rintro e w9 ⟨rfl, rfl⟩
              clear hst
              have hwd := words_any w8 L _ hD8
              go_wp2_with fail
              (with_reducible refine hwd.mono ?_)
              rintro e w9 ⟨g, capg, rfl, hRg, _, hK11⟩
              rw [HB3.out] at hRg
              have hsm := same_rows w9 44 44 g n capg G capG Q1.sure F (by omega) hRg (hR10.keep hK11 (by simp)) (fun j hj => (HPIC.out j hj).2.1)
              have hSn := HB3.out
              clear hwd
              rw [hSn]
              go_wp2_with fail
              (with_reducible refine hsm.mono ?_)
              rintro e w10 ⟨rfl, hd⟩
              have haw := awake_any w10
              clear hsm
              go_wp2_with fail
              (with_reducible refine haw.mono ?_)
              rintro e w11 ⟨rfl, hK12⟩
              go_wp2
              go_ret
              exact ⟨rfl, ((hk10.trans hK11).trans (Keep.dr hd)).trans hK12⟩
            · clear hgd hbd
              go_wp2_with fail
              (with_reducible refine hwr.mono ?_)
              rintro e w8 ⟨rfl, hD8, hK9⟩
              have hk10 := hk9.into hK9 hL7
              have hR10 := HR8.out.keep hK9 hGL
              clear hwr
              have hst := steps_any w8 L _ hD8
              go_wp2_with fail
              (with_reducible refine hst.mono ?_)
              rintro e w9 ⟨rfl, rfl⟩
              clear hst
              have hwd := words_any w8 L _ hD8
              go_wp2_with fail
              (with_reducible refine hwd.mono ?_)
              rintro e w9 ⟨g, capg, rfl, hRg, _, hK11⟩
              rw [HB3.out] at hRg
              have hsm := same_rows w9 44 44 g n capg G capG Q1.sure F (by omega) hRg (hR10.keep hK11 (by simp)) (fun j hj => (HPIC.out j hj).2.1)
              have hSn := HB3.out
              clear hwd
              rw [hSn]
              go_wp2_with fail
              (with_reducible refine hsm.mono ?_)
              rintro e w10 ⟨rfl, hd⟩
              have haw := awake_any w10
              clear hsm
              go_wp2_with fail
              (with_reducible refine haw.mono ?_)
              rintro e w11 ⟨rfl, hK12⟩
              go_wp2
              go_ret
              exact ⟨rfl, ((hk10.trans hK11).trans (Keep.dr hd)).trans hK12⟩
    · have h60' : ¬ (60 : Int) < (n1 : Int) := by omega
      subst hkk
      go_wp2_with fail
      go_loopw [43, 11] (fun x y wr => RfRel w6 n k E x y wr) (fun x _ _ => k - (intOf x).toNat)
      case atStart => exact ⟨0, rfl, by first | (simp [badTo]; done) | (simp [badTo]; omega), by omega, Keep.refl _ _⟩
      case round =>
        obtain ⟨i, rfl, rfl, hik, hK8⟩ := hrel
        by_cases hlt : i < k
        · obtain ⟨b', o', hA', _, hb', hcc⟩ := (hEk.out.lift (own := []) (hk7.trans hK8) (by simp)).cells (by omega)
          subst hA'
          obtain ⟨c0, c1⟩ := hcc i hlt
          have hlt' : (i : Int) < (k : Int) := by omega
          have ki : Keep [] wr (wr.alloc (.cells #[.int .i64 (E i).a, .int .u64 (E i).v] 46)) := Keep.alloc _ _
          have HSUC := Lib.hid (badTo_succ n k E i)
          have hK9 := hK8.trans ki
          clear hcc
          cases hbd : badTo n k E i
          · by_cases h1 : (E i).a < 40
            · have HB := Lib.hid (show badTo n k E (i + 1) = true by rw [HSUC.out, hbd]; simp [h1])
              clear hbd HSUC
              go_wp2_with fail
              exact ⟨⟨i + 1, by go_num, by rw [HB.out], by omega, hK9⟩, by simp [intOf]; omega⟩
            · by_cases h2 : (n : Int) ≤ (E i).a
              · have HB := Lib.hid (show badTo n k E (i + 1) = true by rw [HSUC.out, hbd]; simp [h2])
                clear hbd HSUC
                go_wp2_with fail
                exact ⟨⟨i + 1, by go_num, by rw [HB.out], by omega, hK9⟩, by simp [intOf]; omega⟩
              · have HB := Lib.hid (show badTo n k E (i + 1) = false by rw [HSUC.out, hbd]; simp [h1]; omega)
                clear hbd HSUC
                go_wp2_with fail
                exact ⟨⟨i + 1, by go_num, by rw [HB.out], by omega, hK9⟩, by simp [intOf]; omega⟩
          · have HB := Lib.hid (show badTo n k E (i + 1) = true by rw [HSUC.out, hbd]; simp)
            clear hbd HSUC
            go_wp2_with fail
            exact ⟨⟨i + 1, by go_num, by rw [HB.out], by omega, hK9⟩, by simp [intOf]; omega⟩
        · have hik2 : i = k := by omega
          have hnl : ¬ (i : Int) < (k : Int) := by omega
          have hwr := HWR.out wr hK8
          have hk9 := hk7.trans hK8
          have HR8 := Lib.hid (hR6.keep hK8 (by simp))
          obtain ⟨f1, f2⟩ := HFA.out
          rw [← hik2] at f1 f2
          have HF1 := Lib.hid f1
          have HF2 := Lib.hid f2
          clear f1 f2 HFA HWR hEk HE hEBk hR6
          generalize hQ : (writeR S 0 40 E k) = Q at *
          rw [hik2] at HF1 HF2
          rw [hQ] at HF1 HF2
          rw [← hik2] at HF1 HF2
          obtain ⟨Q1, Q2⟩ := Q
          dsimp only at hwr HF1 HF2
          clear hQ
          have hD8 : ∀ w8, Dev w8 L Q1 → True := fun _ _ => trivial
          by_cases hgd : badTo n k E i = false ∧ mark = 0
          · obtain ⟨hbd, rfl⟩ := hgd
            obtain ⟨rfl, hq1⟩ := HF1.out (by rw [← hbd, hik2]) HHF.out
            rw [hbd]
            have HQ1 := Lib.hid hq1
            clear hbd hq1 HF1 HF2
            go_wp2_with fail
            (with_reducible refine hwr.mono ?_)
            rintro e w8 ⟨rfl, hD8, hK9⟩
            have hk10 := hk9.into hK9 hL7
            clear hwr
            have haw := awake_any w8
            by_cases hk0 : k = 0
            · have hst := steps_any w8 L _ hD8
              rw [HQ1.out (by omega)] at hst
              subst hk0
              clear HQ1
              go_wp2_with fail
              (with_reducible refine hst.mono ?_)
              rintro e w9 ⟨rfl, rfl⟩
              clear hst
              go_wp2_with fail
              (with_reducible refine haw.mono ?_)
              rintro e w10 ⟨rfl, hK10⟩
              go_wp2
              go_ret
              exact ⟨rfl, hk10.trans hK10⟩
            · have hk1 : (0 : Int) < (k : Int) := by omega
              go_wp2_with fail
              (with_reducible refine haw.mono ?_)
              rintro e w10 ⟨rfl, hK10⟩
              go_wp2
              go_ret
              exact ⟨rfl, hk10.trans hK10⟩
          · have hn2 := HF2.out (fun h h0 => hgd ⟨by rw [← h, hik2], by rw [← h0]; exact HHF.out.symm⟩)
            obtain ⟨hq2, rfl⟩ := hn2
            have hqb : (Q2 != 0) = true := by simpa using hq2
            clear HF1 HF2
            have hrest : ∀ w8, Dev w8 L Q1 → Keep L.own wr w8 → True := fun _ _ _ => trivial
            clear hrest
            cases hbd : badTo n k E i
            · have hm0 : mark ≠ 0 := fun h => hgd ⟨hbd, h⟩
              have hmb : (mark == 0) = false := by simpa using hm0
              clear hgd hbd
              go_wp2_with fail
              (with_reducible refine hwr.mono ?_)
              rintro e w8 ⟨rfl, hD8, hK9⟩
              have hk10 := hk9.into hK9 hL7
              have hR10 := HR8.out.keep hK9 hGL
              clear hwr
              have hst := steps_any w8 L _ hD8
              go_wp2_with fail
              (with_reducible refine hst.mono ?_)
              rintro e w9 ⟨rfl, rfl⟩
              clear hst
              have hwd := words_any w8 L _ hD8
              go_wp2_with fail
              (with_reducible refine hwd.mono ?_)
              rintro e w9 ⟨g, capg, rfl, hRg, _, hK11⟩
              rw [HB3.out] at hRg
              have hsm := same_rows w9 44 44 g n capg G capG Q1.sure F (by omega) hRg (hR10.keep hK11 (by simp)) (fun j hj => (HPIC.out j hj).2.1)
              have hSn := HB3.out
              clear hwd
              rw [hSn]
              go_wp2_with fail
              (with_reducible refine hsm.mono ?_)
              rintro e w10 ⟨rfl, hd⟩
              have haw := awake_any w10
              clear hsm
              go_wp2_with fail
              (with_reducible refine haw.mono ?_)
              rintro e w11 ⟨rfl, hK12⟩
              go_wp2
              go_ret
              exact ⟨rfl, ((hk10.trans hK11).trans (Keep.dr hd)).trans hK12⟩
            · clear hgd hbd
              go_wp2_with fail
              (with_reducible refine hwr.mono ?_)
              rintro e w8 ⟨rfl, hD8, hK9⟩
              have hk10 := hk9.into hK9 hL7
              have hR10 := HR8.out.keep hK9 hGL
              clear hwr
              have hst := steps_any w8 L _ hD8
              go_wp2_with fail
              (with_reducible refine hst.mono ?_)
              rintro e w9 ⟨rfl, rfl⟩
              clear hst
              have hwd := words_any w8 L _ hD8
              go_wp2_with fail
              (with_reducible refine hwd.mono ?_)
              rintro e w9 ⟨g, capg, rfl, hRg, _, hK11⟩
              rw [HB3.out] at hRg
              have hsm := same_rows w9 44 44 g n capg G capG Q1.sure F (by omega) hRg (hR10.keep hK11 (by simp)) (fun j hj => (HPIC.out j hj).2.1)
              have hSn := HB3.out
              clear hwd
              rw [hSn]
              go_wp2_with fail
              (with_reducible refine hsm.mono ?_)
              rintro e w10 ⟨rfl, hd⟩
              have haw := awake_any w10
              clear hsm
              go_wp2_with fail
              (with_reducible refine haw.mono ?_)
              rintro e w11 ⟨rfl, hK12⟩
              go_wp2
              go_ret
              exact ⟨rfl, ((hk10.trans hK11).trans (Keep.dr hd)).trans hK12⟩
end Go.Proofs.Ytejhdmpobaffcaa
