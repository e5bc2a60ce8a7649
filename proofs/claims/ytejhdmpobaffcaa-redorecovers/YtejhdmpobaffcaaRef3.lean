/-
  The document's own device (scullionref3): Flush, Evict, Fence. No conditions but what a device is.
-/
import Derived.Test.YtejhdmpobaffcaaRef2
import Derived.BigRegion
namespace Go.Proofs.Ytejhdmpobaffcaa
open Go.RowKit Go.Flo
set_option maxRecDepth 100000

/-- A line is flushed, in memory. -/
theorem Twin.take {w : World} {T : TLoc} {D : List Nat} {S : St} {X : Nat → Nat → Value} {fz : Int} {c : Array Value} (h : Twin w T D S X fz c) {i : Nat} (hi' : i < nl S.n) :
    TwinE ((w.setCell ⟨T.l, i * 4 + 2, none⟩ (X i 0)).setCell ⟨T.l, i * 4 + 3, none⟩ (.bool true)) T D (takeS S i) ∧ Keep [T.l] w ((w.setCell ⟨T.l, i * 4 + 2, none⟩ (X i 0)).setCell ⟨T.l, i * 4 + 3, none⟩ (.bool true)) := by
  have hk : Keep [T.l] w ((w.setCell ⟨T.l, i * 4 + 2, none⟩ (X i 0)).setCell ⟨T.l, i * 4 + 3, none⟩ (.bool true)) := (Keep.setCell w ⟨T.l, i * 4 + 2, none⟩ (by simp) _).trans (Keep.setCell _ ⟨T.l, i * 4 + 3, none⟩ (by simp) _)
  refine ⟨?_, hk⟩
  have hb := ((h.lblk (by omega)).set_ (i * 4 + 2) (X i 0)).set_ (i * 4 + 3) (.bool true)
  have hc := cells_set (cells_set h.cells h.lsz hi' (show 2 < 4 by omega) (X i 0)) (by simpa using h.lsz) hi' (show 3 < 4 by omega) (.bool true)
  have ho := (h.ok i hi').keep hk (by simp)
  refine ⟨_, fz, _, h.lineAt hi' hk hb (by simp) hc rfl rfl rfl rfl (fun k hk' => by rw [setX_far hk', setX_far hk']) (fun j _ hj => ⟨rfl, rfl, ?_⟩) (fun k hk' => ?_) ⟨?_, ?_, fun _ => ?_, ?_, ?_⟩⟩
  · show (if 8 * i ≤ j ∧ j < 8 * i + 8 then S.now j else S.tk j) = S.tk j
    rw [if_neg (by omega)]
  · show (if k = i then true else S.fl k) = S.fl k
    rw [if_neg hk']
  · rw [setX_beside (by omega), setX_beside (by omega)]
    exact ho.now
  · rw [setX_beside (by omega), setX_beside (by omega)]
    exact ho.sure
  · rw [setX_beside (by omega), setX_here]
    refine ho.now.congr (fun j hj => ?_)
    show S.now (lo i + j) = if 8 * i ≤ lo i + j ∧ lo i + j < 8 * i + 8 then S.now (lo i + j) else S.tk (lo i + j)
    rw [if_pos (by unfold hi lo at *; omega)]
  · rw [setX_here]
    show Value.bool true = .bool (if i = i then true else S.fl i)
    rw [if_pos rfl]
  · rw [setX_beside (by omega), setX_here]
    obtain ⟨g, cap, e, _⟩ := ho.now
    exact ⟨_, _, _, e⟩

/-- A line is sure by words of another row, in memory. -/
theorem Twin.secure {w : World} {T : TLoc} {D : List Nat} {S : St} {X : Nat → Nat → Value} {fz : Int} {c : Array Value} (h : Twin w T D S X fz c) {i : Nat} (hi' : i < nl S.n) (v : Value) (q : Nat → Int) (hv : Imm w (T.m :: T.l :: D) v (hi S.n i - lo i) (fun j => q (lo i + j))) :
    TwinE ((w.setCell ⟨T.l, i * 4 + 1, none⟩ v).setCell ⟨T.l, i * 4 + 3, none⟩ (.bool false)) T D (secureS S i q) ∧ Keep [T.l] w ((w.setCell ⟨T.l, i * 4 + 1, none⟩ v).setCell ⟨T.l, i * 4 + 3, none⟩ (.bool false)) := by
  have hk : Keep [T.l] w ((w.setCell ⟨T.l, i * 4 + 1, none⟩ v).setCell ⟨T.l, i * 4 + 3, none⟩ (.bool false)) := (Keep.setCell w ⟨T.l, i * 4 + 1, none⟩ (by simp) _).trans (Keep.setCell _ ⟨T.l, i * 4 + 3, none⟩ (by simp) _)
  refine ⟨?_, hk⟩
  have hb := ((h.lblk (by omega)).set_ (i * 4 + 1) v).set_ (i * 4 + 3) (.bool false)
  have hc := cells_set (cells_set h.cells h.lsz hi' (show 1 < 4 by omega) v) (by simpa using h.lsz) hi' (show 3 < 4 by omega) (.bool false)
  have ho := (h.ok i hi').keep hk (by simp)
  refine ⟨_, fz, _, h.lineAt hi' hk hb (by simp) hc rfl rfl rfl rfl (fun k hk' => by rw [setX_far hk', setX_far hk']) (fun j _ hj => ⟨rfl, ?_, rfl⟩) (fun k hk' => ?_) ⟨?_, ?_, fun hf => ?_, ?_, ?_⟩⟩
  · show (if 8 * i ≤ j ∧ j < 8 * i + 8 then q j else S.sure j) = S.sure j
    rw [if_neg (by omega)]
  · show (if k = i then false else S.fl k) = S.fl k
    rw [if_neg hk']
  · rw [setX_beside (by omega), setX_beside (by omega)]
    exact ho.now
  · rw [setX_beside (by omega), setX_here]
    refine (hv.keep hk (by simp)).congr (fun j hj => ?_)
    show q (lo i + j) = if 8 * i ≤ lo i + j ∧ lo i + j < 8 * i + 8 then q (lo i + j) else S.sure (lo i + j)
    rw [if_pos (by unfold hi lo at *; omega)]
  · have : (if i = i then false else S.fl i) = true := hf
    rw [if_pos rfl] at this
    cases this
  · rw [setX_here]
    show Value.bool false = .bool (if i = i then false else S.fl i)
    rw [if_pos rfl]
  · rw [setX_beside (by omega), setX_beside (by omega)]
    exact ho.va

set_option maxHeartbeats 2000000 in
theorem rflush_any (w : World) (T : TLoc) (D : List Nat) (S : St) (h : TwinE w T D S) (x : Int) (s0 : 0 ≤ S.steps) (s1 : S.steps < 1000000) :
    Calls Try.prog 36 #[.pointer (some ⟨T.m, 0, none⟩), .int .i64 x] w (TDid T D (flushS S x) w (.int .i64 (ans (stepS S).off (hasB S.n x)))) := by
  cases ho : S.off
  · have hst := rstep_on w T D S h s0 s1 ho
    cases hoo : (stepS S).off
    · rw [hoo] at hst
      cases hh : hasB S.n x
      · have hfin : flushS S x = stepS S := by simp [flushS, hh]
        have HF := Lib.hid (And.intro hfin hh)
        clear hfin hh ho hoo
        go_enter Try.func36, Try.ntmps36
        go_wp2_with fail
        (with_reducible refine hst.mono ?_)
        rintro e w1 ⟨rfl, hT1, hK1⟩
        have h2 : Calls Try.prog 54 #[.pointer (some ⟨T.m, 0, none⟩), .int .i64 x] w1 fun e w' => e = .returned (.bool false) ∧ w1 = w' := by
          have := is_any w1 T D _ hT1 x
          have e : (stepS S).n = S.n := rfl
          rw [e, HF.out.2] at this
          exact this
        clear hst h
        go_wp2_with fail
        (with_reducible refine h2.mono ?_)
        rintro e w' ⟨rfl, rfl⟩
        go_wp2
        go_ret
        exact ⟨rfl, by rw [HF.out.1]; exact hT1, hK1⟩
      · obtain ⟨x0, x1⟩ := hasB_true hh
        obtain ⟨k, rfl⟩ := Int.eq_ofNat_of_zero_le x0
        have hk : k < S.n := by omega
        have hl : k / 8 < nl S.n := by unfold nl; omega
        have hfin : flushS S k = takeS (stepS S) (k / 8) := by simp [flushS, hh, hoo]
        have HF := Lib.hid (And.intro hfin hh)
        clear hfin hh ho hoo
        go_enter Try.func36, Try.ntmps36
        go_wp2_with fail
        (with_reducible refine hst.mono ?_)
        rintro e w1 ⟨rfl, hT1, hK1⟩
        have h2 : Calls Try.prog 54 #[.pointer (some ⟨T.m, 0, none⟩), .int .i64 k] w1 fun e w' => e = .returned (.bool true) ∧ w1 = w' := by
          have := is_any w1 T D _ hT1 k
          have e : (stepS S).n = S.n := rfl
          rw [e, HF.out.2] at this
          exact this
        have hn2 : (stepS S).n = S.n := rfl
        generalize stepS S = S2 at *
        rw [← hn2] at hk hl
        clear hst h hn2
        obtain ⟨X, fz, c, hT⟩ := hT1
        have c1 := hT.c1
        have hA := hT.adr (by omega)
        rw [hA] at c1
        have cl := hT.lcell hl (show 0 < 4 by omega)
        have cl2 := hT.lcell hl (show 2 < 4 by omega)
        have cl3 := hT.lcell hl (show 3 < 4 by omega)
        have zl := hT.lz hl
        obtain ⟨gx, capx, hX0, _⟩ := (hT.ok (k / 8) hl).now
        rw [Nat.add_zero] at cl
        have hkn : k < 65536 := by have := hT.n; omega
        have hcapl := hT.capl
        have y1 : (k : Int) / 8 < ((nl S2.n : Nat) : Int) := by omega
        have hTk := hT.take hl
        have HTK := Lib.hid hTk
        rw [hX0] at cl
        have HX0 := Lib.hid hX0
        clear hT hA hTk hX0
        go_wp2_with fail
        (with_reducible refine h2.mono ?_)
        rintro e w' ⟨rfl, rfl⟩
        go_wp2
        go_ret
        obtain ⟨e1, e2⟩ := HTK.out
        rw [HX0.out] at e1 e2
        exact ⟨rfl, by rw [HF.out.1]; exact e1, hK1.trans (TwinE.own e2)⟩
    · rw [hoo] at hst
      have hfin : flushS S x = stepS S := by simp [flushS, hoo]
      have HF := Lib.hid hfin
      have hE : ans true (hasB S.n x) = 7 := rfl
      rw [hE]
      clear hfin ho hoo hE
      go_enter Try.func36, Try.ntmps36
      go_wp2_with fail
      (with_reducible refine hst.mono ?_)
      rintro e w1 ⟨rfl, hT1, hK1⟩
      have hen : Calls Try.prog 60 #[.int .i64 0, .bool true] w1 fun e w' => e = .returned (.int .i64 7) ∧ w1 = w' := end_any w1 0 true
      go_wp2_with fail
      (with_reducible refine hen.mono ?_)
      rintro e w' ⟨rfl, rfl⟩
      go_wp2
      go_ret
      exact ⟨rfl, by rw [HF.out]; exact hT1, hK1⟩
  · have hst := rstep_off w T D S h s0 s1 ho
    have hoff : (stepS S).off = true := by simp [stepS, ho]
    have hfin : flushS S x = stepS S := by simp [flushS, hoff]
    have hE : ans (stepS S).off (hasB S.n x) = 7 := by rw [hoff]; rfl
    rw [hE]
    have HF := Lib.hid hfin
    clear hfin hoff hE ho
    go_enter Try.func36, Try.ntmps36
    go_wp2_with fail
    (with_reducible refine hst.mono ?_)
    rintro e w1 ⟨rfl, hT1, hK1⟩
    have hen : Calls Try.prog 60 #[.int .i64 7, .bool false] w1 fun e w' => e = .returned (.int .i64 7) ∧ w1 = w' := end_any w1 7 false
    go_wp2_with fail
    (with_reducible refine hen.mono ?_)
    rintro e w' ⟨rfl, rfl⟩
    go_wp2
    go_ret
    exact ⟨rfl, by rw [HF.out]; exact hT1, hK1⟩

end Go.Proofs.Ytejhdmpobaffcaa
