/-
  The document's own device (scullionref3): Flush, Evict, Fence. No conditions but what a device is.
-/
import Derived.Test.YtjicfjnkammmcaaRef2
import Derived.BigRegion
namespace Go.Proofs.Ytjicfjnkammmcaa
open Go.RowKit Go.Flo

/-- A line is flushed, in memory. -/
theorem Twin.take {w : World} {T : TLoc} {D : List Nat} {S : St} {X : Nat → Nat → Value} {fz : Int} {c : Array Value} (h : Twin w T D S X fz c) {i : Nat} (hi' : i < nl S.n) :
    TwinE ((w.setCell ⟨T.l, i * 4 + 2, none⟩ (X i 0)).setCell ⟨T.l, i * 4 + 3, none⟩ (.bool true)) T D (takeS S i) ∧ Keep [T.l] w ((w.setCell ⟨T.l, i * 4 + 2, none⟩ (X i 0)).setCell ⟨T.l, i * 4 + 3, none⟩ (.bool true)) := by
  have hk : Keep [T.l] w ((w.setCell ⟨T.l, i * 4 + 2, none⟩ (X i 0)).setCell ⟨T.l, i * 4 + 3, none⟩ (.bool true)) := (Keep.setCell w ⟨T.l, i * 4 + 2, none⟩ (by simp) _).trans (Keep.setCell _ ⟨T.l, i * 4 + 3, none⟩ (by simp) _)
  refine ⟨?_, hk⟩
  have hb := ((h.lblk (by omega)).set_ (i * 4 + 2) (X i 0)).set_ (i * 4 + 3) (.bool true)
  have hc := cells_set (cells_set h.cells h.lsz hi' (show 2 < 4 by omega) (X i 0)) (by simpa using h.lsz) hi' (show 3 < 4 by omega) (.bool true)
  have ho := (h.ok i hi').keep hk (by simp)
  refine ⟨_, fz, _, h.lineAt hi' hk hb (by simp) hc rfl rfl rfl rfl (fun k hk' => by rw [setX_far hk', setX_far hk']) (fun j _ hj => ⟨rfl, rfl, ?_⟩) (fun k hk' => ?_) ⟨?_, ?_, fun _ => ?_, ?_, ?_⟩⟩
  · show (if 8 * i ≤ j ∧ j < 8 * i + 8 then S.now j else S.tk j) = S.tk j
    rw [if_neg (by omega)]
  · show (if k = i then true else S.fl k) = S.fl k
    rw [if_neg hk']
  · rw [setX_beside (by omega), setX_beside (by omega)]
    exact ho.now
  · rw [setX_beside (by omega), setX_beside (by omega)]
    exact ho.sure
  · rw [setX_beside (by omega), setX_here]
    refine ho.now.congr (fun j hj => ?_)
    show S.now (lo i + j) = if 8 * i ≤ lo i + j ∧ lo i + j < 8 * i + 8 then S.now (lo i + j) else S.tk (lo i + j)
    rw [if_pos (by unfold hi lo at *; omega)]
  · rw [setX_here]
    show Value.bool true = .bool (if i = i then true else S.fl i)
    rw [if_pos rfl]
  · rw [setX_beside (by omega), setX_here]
    obtain ⟨g, cap, e, _⟩ := ho.now
    exact ⟨_, _, _, e⟩

/-- A line is sure by words of another row, in memory. -/
theorem Twin.secure {w : World} {T : TLoc} {D : List Nat} {S : St} {X : Nat → Nat → Value} {fz : Int} {c : Array Value} (h : Twin w T D S X fz c) {i : Nat} (hi' : i < nl S.n) (v : Value) (q : Nat → Int) (hv : Imm w (T.m :: T.l :: D) v (hi S.n i - lo i) (fun j => q (lo i + j))) :
    TwinE ((w.setCell ⟨T.l, i * 4 + 1, none⟩ v).setCell ⟨T.l, i * 4 + 3, none⟩ (.bool false)) T D (secureS S i q) ∧ Keep [T.l] w ((w.setCell ⟨T.l, i * 4 + 1, none⟩ v).setCell ⟨T.l, i * 4 + 3, none⟩ (.bool false)) := by
  have hk : Keep [T.l] w ((w.setCell ⟨T.l, i * 4 + 1, none⟩ v).setCell ⟨T.l, i * 4 + 3, none⟩ (.bool false)) := (Keep.setCell w ⟨T.l, i * 4 + 1, none⟩ (by simp) _).trans (Keep.setCell _ ⟨T.l, i * 4 + 3, none⟩ (by simp) _)
  refine ⟨?_, hk⟩
  have hb := ((h.lblk (by omega)).set_ (i * 4 + 1) v).set_ (i * 4 + 3) (.bool false)
  have hc := cells_set (cells_set h.cells h.lsz hi' (show 1 < 4 by omega) v) (by simpa using h.lsz) hi' (show 3 < 4 by omega) (.bool false)
  have ho := (h.ok i hi').keep hk (by simp)
  refine ⟨_, fz, _, h.lineAt hi' hk hb (by simp) hc rfl rfl rfl rfl (fun k hk' => by rw [setX_far hk', setX_far hk']) (fun j _ hj => ⟨rfl, ?_, rfl⟩) (fun k hk' => ?_) ⟨?_, ?_, fun hf => ?_, ?_, ?_⟩⟩
  · show (if 8 * i ≤ j ∧ j < 8 * i + 8 then q j else S.sure j) = S.sure j
    rw [if_neg (by omega)]
  · show (if k = i then false else S.fl k) = S.fl k
    rw [if_neg hk']
  · rw [setX_beside (by omega), setX_beside (by omega)]
    exact ho.now
  · rw [setX_beside (by omega), setX_here]
    refine (hv.keep hk (by simp)).congr (fun j hj => ?_)
    show q (lo i + j) = if 8 * i ≤ lo i + j ∧ lo i + j < 8 * i + 8 then q (lo i + j) else S.sure (lo i + j)
    rw [if_pos (by unfold hi lo at *; omega)]
  · have : (if i = i then false else S.fl i) = true := hf
    rw [if_pos rfl] at this
    cases this
  · rw [setX_here]
    show Value.bool false = .bool (if i = i then false else S.fl i)
    rw [if_pos rfl]
  · rw [setX_beside (by omega), setX_beside (by omega)]
    exact ho.va

set_option maxHeartbeats 2000000 in
theorem rflush_any (w : World) (T : TLoc) (D : List Nat) (S : St) (h : TwinE w T D S) (x : Int) (s0 : 0 ≤ S.steps) (s1 : S.steps < 1000000) :
    Calls Try.prog 33 #[.pointer (some ⟨T.m, 0, none⟩), .int .i64 x] w (TDid T D (flushS S x) w (.int .i64 (ans (stepS S).off (hasB S.n x)))) := by
  cases ho : S.off
  · have hst := rstep_on w T D S h s0 s1 ho
    cases hoo : (stepS S).off
    · rw [hoo] at hst
      cases hh : hasB S.n x
      · have hfin : flushS S x = stepS S := by simp [flushS, hh]
        have HF := Lib.hid (And.intro hfin hh)
        clear hfin hh ho hoo
        go_enter Try.func33, Try.ntmps33
        go_wp2_with fail
        (with_reducible refine hst.mono ?_)
        rintro e w1 ⟨rfl, hT1, hK1⟩
        have h2 : Calls Try.prog 50 #[.pointer (some ⟨T.m, 0, none⟩), .int .i64 x] w1 fun e w' => e = .returned (.bool false) ∧ w1 = w' := by
          have := is_any w1 T D _ hT1 x
          have e : (stepS S).n = S.n := rfl
          rw [e, HF.out.2] at this
          exact this
        clear hst h
        go_wp2_with fail
        (with_reducible refine h2.mono ?_)
        rintro e w' ⟨rfl, rfl⟩
        go_wp2
        go_ret
        exact ⟨rfl, by rw [HF.out.1]; exact hT1, hK1⟩
      · obtain ⟨x0, x1⟩ := hasB_true hh
        obtain ⟨k, rfl⟩ := Int.eq_ofNat_of_zero_le x0
        have hk : k < S.n := by omega
        have hl : k / 8 < nl S.n := by unfold nl; omega
        have hfin : flushS S k = takeS (stepS S) (k / 8) := by simp [flushS, hh, hoo]
        have HF := Lib.hid (And.intro hfin hh)
        clear hfin hh ho hoo
        go_enter Try.func33, Try.ntmps33
        go_wp2_with fail
        (with_reducible refine hst.mono ?_)
        rintro e w1 ⟨rfl, hT1, hK1⟩
        have h2 : Calls Try.prog 50 #[.pointer (some ⟨T.m, 0, none⟩), .int .i64 k] w1 fun e w' => e = .returned (.bool true) ∧ w1 = w' := by
          have := is_any w1 T D _ hT1 k
          have e : (stepS S).n = S.n := rfl
          rw [e, HF.out.2] at this
          exact this
        have hn2 : (stepS S).n = S.n := rfl
        generalize stepS S = S2 at *
        rw [← hn2] at hk hl
        clear hst h hn2
        obtain ⟨X, fz, c, hT⟩ := hT1
        have c1 := hT.c1
        have hA := hT.adr (by omega)
        rw [hA] at c1
        have cl := hT.lcell hl (show 0 < 4 by omega)
        have cl2 := hT.lcell hl (show 2 < 4 by omega)
        have cl3 := hT.lcell hl (show 3 < 4 by omega)
        have zl := hT.lz hl
        obtain ⟨gx, capx, hX0, _⟩ := (hT.ok (k / 8) hl).now
        rw [Nat.add_zero] at cl
        have hkn : k < 65536 := by have := hT.n; omega
        have hcapl := hT.capl
        have y1 : (k : Int) / 8 < ((nl S2.n : Nat) : Int) := by omega
        have hTk := hT.take hl
        have HTK := Lib.hid hTk
        rw [hX0] at cl
        have HX0 := Lib.hid hX0
        clear hT hA hTk hX0
        go_wp2_with fail
        (with_reducible refine h2.mono ?_)
        rintro e w' ⟨rfl, rfl⟩
        go_wp2
        go_ret
        obtain ⟨e1, e2⟩ := HTK.out
        rw [HX0.out] at e1 e2
        exact ⟨rfl, by rw [HF.out.1]; exact e1, hK1.trans (TwinE.own e2)⟩
    · rw [hoo] at hst
      have hfin : flushS S x = stepS S := by simp [flushS, hoo]
      have HF := Lib.hid hfin
      have hE : ans true (hasB S.n x) = 7 := rfl
      rw [hE]
      clear hfin ho hoo hE
      go_enter Try.func33, Try.ntmps33
      go_wp2_with fail
      (with_reducible refine hst.mono ?_)
      rintro e w1 ⟨rfl, hT1, hK1⟩
      have hen : Calls Try.prog 51 #[.int .i64 0, .bool true] w1 fun e w' => e = .returned (.int .i64 7) ∧ w1 = w' := end_any w1 0 true
      go_wp2_with fail
      (with_reducible refine hen.mono ?_)
      rintro e w' ⟨rfl, rfl⟩
      go_wp2
      go_ret
      exact ⟨rfl, by rw [HF.out]; exact hT1, hK1⟩
  · have hst := rstep_off w T D S h s0 s1 ho
    have hoff : (stepS S).off = true := by simp [stepS, ho]
    have hfin : flushS S x = stepS S := by simp [flushS, hoff]
    have hE : ans (stepS S).off (hasB S.n x) = 7 := by rw [hoff]; rfl
    rw [hE]
    have HF := Lib.hid hfin
    clear hfin hoff hE ho
    go_enter Try.func33, Try.ntmps33
    go_wp2_with fail
    (with_reducible refine hst.mono ?_)
    rintro e w1 ⟨rfl, hT1, hK1⟩
    have hen : Calls Try.prog 51 #[.int .i64 7, .bool false] w1 fun e w' => e = .returned (.int .i64 7) ∧ w1 = w' := end_any w1 7 false
    go_wp2_with fail
    (with_reducible refine hen.mono ?_)
    rintro e w' ⟨rfl, rfl⟩
    go_wp2
    go_ret
    exact ⟨rfl, by rw [HF.out]; exact hT1, hK1⟩

set_option maxHeartbeats 2000000 in
theorem revict_any (w : World) (T : TLoc) (D : List Nat) (S : St) (h : TwinE w T D S) (x : Int) :
    Calls Try.prog 35 #[.pointer (some ⟨T.m, 0, none⟩), .int .i64 x] w (TDid T D (evictS S x) w (.bool (lineB S x && dirtyB S x.toNat))) := by
  have hTE := h
  obtain ⟨X, fz, c, h⟩ := h
  have hn := h.n
  have hm : nl S.n ≤ 65536 := by unfold nl; omega
  have c4 := h.c4
  have c1 := h.c1
  cases hb : lineB S x
  · have hfin : evictS S x = S := by simp [evictS, hb]
    have HF := Lib.hid hfin
    clear hfin
    cases ho : S.off
    · rw [ho] at c4
      simp [lineB, ho] at hb
      by_cases x0 : 0 ≤ x
      · have hx : ¬ x < ((nl S.n : Nat) : Int) := by have := hb x0; omega
        have d0 : decide (x < 0) = false := by simpa using x0
        have d1 : decide (((nl S.n : Nat) : Int) ≤ x) = true := by simp; omega
        clear hb h
        go_enter Try.func35, Try.ntmps35
        go_wp2
        go_ret
        exact ⟨rfl, by rw [HF.out]; exact hTE, Keep.refl _ _⟩
      · have d0 : decide (x < 0) = true := by simp; omega
        clear hb h
        go_enter Try.func35, Try.ntmps35
        go_wp2
        go_ret
        exact ⟨rfl, by rw [HF.out]; exact hTE, Keep.refl _ _⟩
    · rw [ho] at c4
      clear hb h
      go_enter Try.func35, Try.ntmps35
      go_wp2
      go_ret
      exact ⟨rfl, by rw [HF.out]; exact hTE, Keep.refl _ _⟩
  · have hfin : evictS S x = secureS S x.toNat S.now := by simp [evictS, hb]
    simp [lineB] at hb
    obtain ⟨ho, x0, x1⟩ := hb
    obtain ⟨l, rfl⟩ := Int.eq_ofNat_of_zero_le x0
    rw [ho] at c4
    have hl : l < nl S.n := by omega
    rw [Int.toNat_natCast] at hfin ⊢
    have HF := Lib.hid hfin
    have d0 : decide ((l : Int) < 0) = false := by simp
    have d1 : decide (((nl S.n : Nat) : Int) ≤ (l : Int)) = false := by simp; omega
    have hA := h.adr (by omega)
    rw [hA] at c1
    obtain ⟨gn, cn, hXn, hRn, _⟩ := (h.ok l hl).now
    obtain ⟨gs, cs, hXs, hRs, _⟩ := (h.ok l hl).sure
    have cl0 := h.lcell hl (show 0 < 4 by omega)
    have cl1 := h.lcell hl (show 1 < 4 by omega)
    have cl3 := h.lcell hl (show 3 < 4 by omega)
    have zl := h.lz hl
    rw [hXn, Nat.add_zero] at cl0
    rw [hXs] at cl1
    have hb8 : hi S.n l - lo l ≤ 8 := by unfold hi lo; omega
    have hsm : ∀ W, Dr w W → Calls Try.prog 52 #[.slice (some ⟨gn, 0, none⟩) (hi S.n l - lo l) cn, .slice (some ⟨gs, 0, none⟩) (hi S.n l - lo l) cs] W fun e w' => e = .returned (.bool (eqB (hi S.n l - lo l) (fun j => S.now (lo l + j)) (fun j => S.sure (lo l + j)))) ∧ Dr W w' := fun W d =>
      rsame_any W gn 0 cn gs 0 cs _ _ _ (by omega) (fun j hj => by rw [Nat.zero_add]; exact (hRn.dr d).cell hj) (fun j hj => by rw [Nat.zero_add]; exact (hRs.dr d).cell hj)
    have hdi : dirtyB S l = !eqB (hi S.n l - lo l) (fun j => S.now (lo l + j)) (fun j => S.sure (lo l + j)) := rfl
    have hse : ∀ W, Dr w W → TwinE ((W.setCell ⟨T.l, l * 4 + 1, none⟩ (.slice (some ⟨gn, 0, none⟩) (hi S.n l - lo l) cn)).setCell ⟨T.l, l * 4 + 3, none⟩ (.bool false)) T D (secureS S l S.now) ∧ Keep [T.l] W ((W.setCell ⟨T.l, l * 4 + 1, none⟩ (.slice (some ⟨gn, 0, none⟩) (hi S.n l - lo l) cn)).setCell ⟨T.l, l * 4 + 3, none⟩ (.bool false)) := fun W d =>
      (h.dr d).secure hl _ S.now (by have := ((h.dr d).ok l hl).now; rw [hXn] at this; exact this)
    have HSM := Lib.hid hsm
    have HDI := Lib.hid hdi
    have HSE := Lib.hid hse
    clear hsm hse hfin ho h hA hXn hXs hRn hRs hTE hdi
    generalize eqB (hi S.n l - lo l) (fun j => S.now (lo l + j)) (fun j => S.sure (lo l + j)) = Z at *
    generalize hi S.n l - lo l = HL at *
    have hcapl : (l : Int) < ((nl S.n : Nat) : Int) := by omega
    rw [HDI.out]
    go_enter Try.func35, Try.ntmps35
    go_wp2_with fail
    go_quiet ((go_at_call 52; refine quiet (HSM.out _ (Dr.drewN _ _))))
    have hE := HSE.out (w.drewN nq) (Dr.drewN _ _)
    have HE := Lib.hid hE
    clear hE
    go_wp2
    go_ret
    obtain ⟨e1, e2⟩ := HE.out
    exact ⟨by simp, by rw [HF.out]; exact e1, (Keep.dr (Dr.drewN w nq)).trans (TwinE.own e2)⟩
end Go.Proofs.Ytjicfjnkammmcaa
