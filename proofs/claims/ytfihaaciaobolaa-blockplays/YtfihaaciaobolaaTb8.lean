/-
  Package block: turn, Publish, Release. No conditions but what a table is, and what a list is.
-/
import Derived.Test.YtfihaaciaobolaaTb7
namespace Go.Proofs.Ytfihaaciaobolaa
open Go.RowKit Go.Flo Go.Bit Go.Bmp
set_option maxRecDepth 100000

/-- The map of the used alone has turned. -/
theorem Tbl.setU {w w' : World} {L : TLoc} {C : Cf} {U T U' : Nat → Bool} (h : Tbl w L C U T) (hm : Mp w' L.u C.all U') (hk : Keep [L.u.r] w w') (hs : ∀ i, U' i = true → T i = true) : Tbl w' L C U' T := by
  obtain ⟨A, cap, hb⟩ := h.blk
  exact ⟨⟨A, cap, hb.keep hk (by simp [h.tur])⟩, hm, h.taken.keep hk (by simp [h.rm]) (by simp; exact fun e => h.rr e.symm), hs, h.tur, h.tkr, h.mm, h.rm, h.rr⟩

theorem Tbl.own_lt {w : World} {L : TLoc} {C : Cf} {U T : Nat → Bool} (h : Tbl w L C U T) : ∀ k ∈ L.own, k < w.heap.size := by
  have h1 := h.used.row.lt
  have h2 := h.taken.row.lt
  intro k hk
  simp only [TLoc.own, List.mem_cons, List.not_mem_nil, or_false] at hk
  rcases hk with rfl | rfl
  · exact h1
  · exact h2

theorem rb_k {w : World} {L : TLoc} {C : Cf} {U T : Nat → Bool} (h : Tbl w L C U T) {b : Int} (hr : rb U T b = true) : ∃ k : Nat, b = k ∧ k < C.all := by
  obtain ⟨k, h1, h2, _⟩ := rb_nat h hr
  exact ⟨k, h1, h2⟩

theorem gb_k {w : World} {L : TLoc} {C : Cf} {U T : Nat → Bool} (h : Tbl w L C U T) {b : Int} (hr : gb U b = true) : ∃ k : Nat, b = k ∧ k < C.all := by
  unfold gb at hr
  simp only [Bool.and_eq_true, decide_eq_true_eq] at hr
  obtain ⟨k, rfl⟩ := Int.eq_ofNat_of_zero_le hr.1
  refine ⟨k, rfl, ?_⟩
  rcases Nat.lt_or_ge k C.all with hl | hl
  · exact hl
  · have := h.used.tidy k hl
    rw [Int.toNat_natCast, this] at hr
    simp at hr

/-- What a turn leaves. -/
def TurnPost (L : TLoc) (C : Cf) (U T : Nat → Bool) (may : Int → Bool) (l : Nat → Int) (n : Nat) (v : Bool) (w : World) (e : Ending) (w' : World) : Prop :=
  (okT may l n = true ∧ ∃ A cap, e = .returned (.tuple #[.slice A (enC (nmB l n) (nw C.all)) cap, .int .i64 0]) ∧ Ents w' [] A (enC (nmB l n) (nw C.all)) cap (enE C.bits (nmB l n) (put U l v n) (nw C.all)) ∧
    (0 < enC (nmB l n) (nw C.all) → ∃ g, A = some ⟨g, 0, none⟩ ∧ w.heap.size ≤ g) ∧ Tbl w' L C (put U l v n) (put T l v n) ∧ Keep L.own w w') ∨
  (okT may l n = false ∧ e = .returned (.tuple #[.slice none 0 0, .int .i64 1]) ∧ Keep [] w w')

def TuRel (w : World) (LN : MLoc) (K : Nat) (may : Int → Bool) (l : Nat → Int) (n : Nat) (x : Value) (wr : World) : Prop :=
  ∃ i : Nat, i ≤ n ∧ x = .int .i64 i ∧ okT may l i = true ∧ Mp wr LN K (nmB l i) ∧ Keep [] w wr

def TuRel2 (w wo : World) (L : TLoc) (LN : MLoc) (C : Cf) (U T : Nat → Bool) (l : Nat → Int) (n : Nat) (v : Bool) (x : Value) (wr : World) : Prop :=
  ∃ j : Nat, j ≤ n ∧ x = .int .i64 j ∧ Tbl wr L C (put U l v j) (put T l v j) ∧ Mp wr LN C.all (nmB l n) ∧ Keep L.own wo wr

set_option maxHeartbeats 4000000 in
theorem turn_pub {w : World} {L : TLoc} {C : Cf} {U T : Nat → Bool} (h : Tbl w L C U T) (ok : C.Ok) (A : Option Addr) (n cap : Nat) (l : Nat → Int) (hl : Ints w A n cap l) (hA : 0 < n → ∀ a, A = some a → a.block ∉ L.own) :
    Calls Try.prog 48 #[.pointer (some ⟨L.t, 0, none⟩), .slice A n cap, (.func (.func 26) #[.pointer (some ⟨L.t, 0, none⟩)] #[]), .bool true] w (TurnPost L C U T (rb U T) l n true w) := by
  have hall := ok.all_le
  have hbl := blocks_c h.lc
  have hnc := hl.nc
  have hcp := hl.cap
  have hnew := new_any w C.all
  rw [clampN_nat (by omega)] at hnew
  have HT := Lib.hid h
  have HI := Lib.hid hl
  have hown := h.own_lt
  clear h hl
  go_enter Try.func48, Try.ntmps48
  go_wp2_with fail
  (with_reducible refine hbl.mono ?_)
  rintro e w' ⟨rfl, rfl⟩
  go_wp2_with fail
  (with_reducible refine hnew.mono ?_)
  rintro e w2 ⟨LN, rfl, hM, hm1, hr1, k2⟩
  have HM := Lib.hid hM
  clear hbl hnew hM
  go_wp2_with fail
  go_loopw [24] (fun x wr => TuRel w LN C.all (rb U T) l n x wr) (fun x _ => n - (intOf x).toNat)
  case atStart => exact ⟨0, by omega, rfl, rfl, HM.out, k2⟩
  case round =>
    obtain ⟨i, hi, rfl, hok, hMr, hkr⟩ := hrel
    have HMr := Lib.hid hMr
    have HOK := Lib.hid hok
    clear hMr hok
    by_cases hlt : i < n
    · obtain ⟨b, o, rfl, hb, hcs⟩ := (HI.out.keep hkr).cells (by omega)
      have hc := hcs i hlt
      have hlt' : (i : Int) < n := by omega
      have htr := HT.out.keep0 hkr
      have hmay := reserved_any htr (l i)
      have HTr := Lib.hid htr
      clear hcs htr
      cases hmm : (rb U T) (l i)
      · rw [hmm] at hmay
        have hno : okT (rb U T) l n = false := by
          have e1 : okT (rb U T) l (i + 1) = false := by
            show (okT (rb U T) l i && ((rb U T) (l i) && !nmB l i (l i).toNat)) = false
            rw [hmm]
            simp
          have := okT_stop e1 (n - (i + 1))
          rwa [show i + 1 + (n - (i + 1)) = n by omega] at this
        have HN := Lib.hid hno
        clear hno
        go_wp2_with fail
        (with_reducible refine hmay.mono ?_)
        rintro e w3 ⟨rfl, d3⟩
        clear hmay
        go_wp2_with fail
        go_ret2
        exact .inr ⟨HN.out, rfl, hkr.trans (Keep.dr d3)⟩
      · rw [hmm] at hmay
        obtain ⟨k, hk, hkall⟩ := rb_k HTr.out hmm
        rw [hk] at hmay hc
        cases hnm : nmB l i k
        · have hnext : okT (rb U T) l (i + 1) = true ∧ nmB l (i + 1) = upd (nmB l i) k true := by
            refine ⟨?_, ?_⟩
            · show (okT (rb U T) l i && ((rb U T) (l i) && !nmB l i (l i).toNat)) = true
              rw [hmm, HOK.out, hk, Int.toNat_natCast, hnm]
              rfl
            · show upd (nmB l i) (l i).toNat true = _
              rw [hk, Int.toNat_natCast]
          have HN := Lib.hid hnext
          have HMM := Lib.hid hmm
          have hset : ∀ W, Dr wr W → Calls Try.prog 46 #[.pointer (some ⟨LN.m, 0, none⟩), .int .i64 k, .bool true] W (SetPost LN C.all (upd (nmB l i) k true) true W) := fun W d => by
            have := mset_any (HMr.out.dr d) k true
            rwa [updZ_nat _ hkall, wasZ_nat _ hkall, hnm] at this
          have HS := Lib.hid hset
          clear hset hnext hmm
          go_wp2_with fail
          (with_reducible refine hmay.mono ?_)
          rintro e w3 ⟨rfl, d3⟩
          have hset := HS.out w3 d3
          clear hmay
          go_wp2_with fail
          (with_reducible refine hset.mono ?_)
          rintro e w4 ⟨rfl, hM4, k4⟩
          have HF := Lib.hid (And.intro hM4 ((hkr.trans (Keep.dr d3)).since k4 (by simp; exact hr1)))
          clear hset hM4 k4
          go_wp2_with fail
          go_roundw
          case rel => exact ⟨i + 1, by omega, by go_num, HN.out.1, by rw [HN.out.2]; exact HF.out.1, HF.out.2⟩
          case measure => simp [intOf]; omega
        · have hno : okT (rb U T) l n = false := by
            have e1 : okT (rb U T) l (i + 1) = false := by
              show (okT (rb U T) l i && ((rb U T) (l i) && !nmB l i (l i).toNat)) = false
              rw [hmm, hk, Int.toNat_natCast, hnm]
              simp
            have := okT_stop e1 (n - (i + 1))
            rwa [show i + 1 + (n - (i + 1)) = n by omega] at this
          have HN := Lib.hid hno
          have hset : ∀ W, Dr wr W → Calls Try.prog 46 #[.pointer (some ⟨LN.m, 0, none⟩), .int .i64 k, .bool true] W (SetPost LN C.all (upd (nmB l i) k true) false W) := fun W d => by
            have := mset_any (HMr.out.dr d) k true
            rwa [updZ_nat _ hkall, wasZ_nat _ hkall, hnm] at this
          have HS := Lib.hid hset
          clear hset hno hmm
          go_wp2_with fail
          (with_reducible refine hmay.mono ?_)
          rintro e w3 ⟨rfl, d3⟩
          have hset := HS.out w3 d3
          clear hmay
          go_wp2_with fail
          (with_reducible refine hset.mono ?_)
          rintro e w4 ⟨rfl, hM4, k4⟩
          have HF := Lib.hid ((hkr.trans (Keep.dr d3)).since k4 (by simp; exact hr1))
          clear hset hM4 k4
          go_wp2_with fail
          go_ret2
          exact .inr ⟨HN.out, rfl, HF.out⟩
    · obtain rfl : i = n := by omega
      have hin : ¬ (i : Int) < i := by omega
      have htr := HT.out.keep0 hkr
      have HTr := Lib.hid htr
      have HKr := Lib.hid hkr
      have hmays := okT_may HOK.out
      have HMY := Lib.hid hmays
      clear htr hkr hmays
      go_wp2_with fail
      generalize wr = wo at *
      go_loopw [41] (fun x wr => TuRel2 w wo L LN C U T l i true x wr) (fun x _ => i - (intOf x).toNat)
      case atStart => exact ⟨0, by omega, rfl, HTr.out, HMr.out, Keep.refl _ _⟩
      case round =>
        obtain ⟨j, hj, rfl, hTj, hMj, hkj⟩ := hrel
        have HMj := Lib.hid hMj
        clear hMj
        by_cases hlt : j < i
        · obtain ⟨b, o, rfl, hb, hcs⟩ := (((HI.out.keep HKr.out).keepO hkj (hA (by omega)))).cells (by omega)
          have hc := hcs j hlt
          have hlt' : (j : Int) < i := by omega
          have hmj := HMY.out j hlt
          obtain ⟨k, hk, hkall⟩ := rb_k HT.out hmj
          rw [hk] at hc
          have hpu : put U l true (j + 1) = upd (put U l true j) k true := by
            show upd (put U l true j) (l j).toNat true = _
            rw [hk, Int.toNat_natCast]
          have hpt : put T l true (j + 1) = upd (put T l true j) k true := by
            show upd (put T l true j) (l j).toNat true = _
            rw [hk, Int.toNat_natCast]
          have hsub1 : ∀ q, upd (put U l true j) k true q = true → put T l true j q = true := by
            intro q hq
            by_cases e : q = k
            · subst e
              obtain ⟨k', e1, _, e2, _⟩ := rb_nat HT.out hmj
              rw [hk] at e1
              obtain rfl : q = k' := by omega
              rw [put_eq]
              split
              · rfl
              · exact e2
            · rw [upd_far _ _ e] at hq
              exact hTj.sub q hq
          have hsub2 : ∀ q, upd (put U l true j) k true q = true → upd (put T l true j) k true q = true := by
            intro q hq
            unfold upd at hq ⊢
            by_cases e : q = k
            · (rw [if_pos e] at hq ⊢) <;> exact hq
            · rw [if_neg e] at hq ⊢
              exact hTj.sub q hq
          have hs1 := mset_any hTj.used k true
          rw [updZ_nat _ hkall] at hs1
          have hcu := hTj.cu
          have HTj := Lib.hid hTj
          have HP := Lib.hid (And.intro hpu (And.intro hpt (And.intro hsub1 hsub2)))
          clear hcs hpu hpt hsub1 hsub2 hTj hmj hk
          go_wp2_with fail
          (with_reducible refine hs1.mono ?_)
          rintro e w5 ⟨rfl, hM5, k5⟩
          have hT5 := HTj.out.setU hM5 k5 HP.out.2.2.1
          have hs2 := mset_any hT5.taken k true
          rw [updZ_nat _ hkall] at hs2
          have hck := hT5.ck
          have HT5 := Lib.hid hT5
          clear hs1 hM5 hcu hT5
          go_wp2_with fail
          (with_reducible refine hs2.mono ?_)
          rintro e w6 ⟨rfl, hM6, k6⟩
          have hT6 := HT5.out.setK hM6 k6 HP.out.2.2.2
          have hkk : Keep L.own wo w6 := (hkj.trans (Keep.u k5)).trans (Keep.k k6)
          have hM7 := HMj.out.keep ((Keep.u (L := L) k5).trans (Keep.k k6)) (fun hm => by have := hown _ hm; omega) (fun hm => by have := hown _ hm; omega)
          have HF := Lib.hid (And.intro hT6 (And.intro hM7 hkk))
          clear hs2 hM6 hT6 hkk hM7 k5 k6
          go_wp2_with fail
          go_roundw
          case rel => exact ⟨j + 1, by omega, by go_num, by rw [HP.out.1, HP.out.2.1]; exact HF.out.1, HF.out.2.1, HF.out.2.2⟩
          case measure => simp [intOf]; omega
        · obtain rfl : j = i := by omega
          have hjn : ¬ (j : Int) < j := by omega
          have hen := entries_any hTj ok LN HMj.out
          have HTj := Lib.hid hTj
          clear hTj
          go_wp2_with fail
          (with_reducible refine hen.mono ?_)
          rintro e w7 ⟨A7, cap7, rfl, hE, hEg, k7⟩
          have HF := Lib.hid (And.intro hE hEg)
          have hkw : Keep L.own w wr := HKr.out.of_nil.trans hkj
          clear hen hE hEg
          go_wp2_with fail
          go_ret2
          exact .inl ⟨HOK.out, A7, cap7, rfl, HF.out.1, fun h0 => by
            obtain ⟨g, e1, e2⟩ := HF.out.2 h0
            exact ⟨g, e1, Nat.le_trans hkw.size e2⟩, HTj.out.keep0 k7, hkw.trans k7.of_nil⟩

set_option maxHeartbeats 4000000 in
theorem turn_rel {w : World} {L : TLoc} {C : Cf} {U T : Nat → Bool} (h : Tbl w L C U T) (ok : C.Ok) (A : Option Addr) (n cap : Nat) (l : Nat → Int) (hl : Ints w A n cap l) (hA : 0 < n → ∀ a, A = some a → a.block ∉ L.own) :
    Calls Try.prog 48 #[.pointer (some ⟨L.t, 0, none⟩), .slice A n cap, (.func (.func 25) #[.pointer (some ⟨L.t, 0, none⟩)] #[]), .bool false] w (TurnPost L C U T (gb U) l n false w) := by
  have hall := ok.all_le
  have hbl := blocks_c h.lc
  have hnc := hl.nc
  have hcp := hl.cap
  have hnew := new_any w C.all
  rw [clampN_nat (by omega)] at hnew
  have HT := Lib.hid h
  have HI := Lib.hid hl
  have hown := h.own_lt
  clear h hl
  go_enter Try.func48, Try.ntmps48
  go_wp2_with fail
  (with_reducible refine hbl.mono ?_)
  rintro e w' ⟨rfl, rfl⟩
  go_wp2_with fail
  (with_reducible refine hnew.mono ?_)
  rintro e w2 ⟨LN, rfl, hM, hm1, hr1, k2⟩
  have HM := Lib.hid hM
  clear hbl hnew hM
  go_wp2_with fail
  go_loopw [24] (fun x wr => TuRel w LN C.all (gb U) l n x wr) (fun x _ => n - (intOf x).toNat)
  case atStart => exact ⟨0, by omega, rfl, rfl, HM.out, k2⟩
  case round =>
    obtain ⟨i, hi, rfl, hok, hMr, hkr⟩ := hrel
    have HMr := Lib.hid hMr
    have HOK := Lib.hid hok
    clear hMr hok
    by_cases hlt : i < n
    · obtain ⟨b, o, rfl, hb, hcs⟩ := (HI.out.keep hkr).cells (by omega)
      have hc := hcs i hlt
      have hlt' : (i : Int) < n := by omega
      have htr := HT.out.keep0 hkr
      have hmay := used_any htr (l i)
      have HTr := Lib.hid htr
      clear hcs htr
      cases hmm : (gb U) (l i)
      · rw [hmm] at hmay
        have hno : okT (gb U) l n = false := by
          have e1 : okT (gb U) l (i + 1) = false := by
            show (okT (gb U) l i && ((gb U) (l i) && !nmB l i (l i).toNat)) = false
            rw [hmm]
            simp
          have := okT_stop e1 (n - (i + 1))
          rwa [show i + 1 + (n - (i + 1)) = n by omega] at this
        have HN := Lib.hid hno
        clear hno
        go_wp2_with fail
        (with_reducible refine hmay.mono ?_)
        rintro e w3 ⟨rfl, d3⟩
        clear hmay
        go_wp2_with fail
        go_ret2
        exact .inr ⟨HN.out, rfl, hkr.trans (Keep.dr d3)⟩
      · rw [hmm] at hmay
        obtain ⟨k, hk, hkall⟩ := gb_k HTr.out hmm
        rw [hk] at hmay hc
        cases hnm : nmB l i k
        · have hnext : okT (gb U) l (i + 1) = true ∧ nmB l (i + 1) = upd (nmB l i) k true := by
            refine ⟨?_, ?_⟩
            · show (okT (gb U) l i && ((gb U) (l i) && !nmB l i (l i).toNat)) = true
              rw [hmm, HOK.out, hk, Int.toNat_natCast, hnm]
              rfl
            · show upd (nmB l i) (l i).toNat true = _
              rw [hk, Int.toNat_natCast]
          have HN := Lib.hid hnext
          have HMM := Lib.hid hmm
          have hset : ∀ W, Dr wr W → Calls Try.prog 46 #[.pointer (some ⟨LN.m, 0, none⟩), .int .i64 k, .bool true] W (SetPost LN C.all (upd (nmB l i) k true) true W) := fun W d => by
            have := mset_any (HMr.out.dr d) k true
            rwa [updZ_nat _ hkall, wasZ_nat _ hkall, hnm] at this
          have HS := Lib.hid hset
          clear hset hnext hmm
          go_wp2_with fail
          (with_reducible refine hmay.mono ?_)
          rintro e w3 ⟨rfl, d3⟩
          have hset := HS.out w3 d3
          clear hmay
          go_wp2_with fail
          (with_reducible refine hset.mono ?_)
          rintro e w4 ⟨rfl, hM4, k4⟩
          have HF := Lib.hid (And.intro hM4 ((hkr.trans (Keep.dr d3)).since k4 (by simp; exact hr1)))
          clear hset hM4 k4
          go_wp2_with fail
          go_roundw
          case rel => exact ⟨i + 1, by omega, by go_num, HN.out.1, by rw [HN.out.2]; exact HF.out.1, HF.out.2⟩
          case measure => simp [intOf]; omega
        · have hno : okT (gb U) l n = false := by
            have e1 : okT (gb U) l (i + 1) = false := by
              show (okT (gb U) l i && ((gb U) (l i) && !nmB l i (l i).toNat)) = false
              rw [hmm, hk, Int.toNat_natCast, hnm]
              simp
            have := okT_stop e1 (n - (i + 1))
            rwa [show i + 1 + (n - (i + 1)) = n by omega] at this
          have HN := Lib.hid hno
          have hset : ∀ W, Dr wr W → Calls Try.prog 46 #[.pointer (some ⟨LN.m, 0, none⟩), .int .i64 k, .bool true] W (SetPost LN C.all (upd (nmB l i) k true) false W) := fun W d => by
            have := mset_any (HMr.out.dr d) k true
            rwa [updZ_nat _ hkall, wasZ_nat _ hkall, hnm] at this
          have HS := Lib.hid hset
          clear hset hno hmm
          go_wp2_with fail
          (with_reducible refine hmay.mono ?_)
          rintro e w3 ⟨rfl, d3⟩
          have hset := HS.out w3 d3
          clear hmay
          go_wp2_with fail
          (with_reducible refine hset.mono ?_)
          rintro e w4 ⟨rfl, hM4, k4⟩
          have HF := Lib.hid ((hkr.trans (Keep.dr d3)).since k4 (by simp; exact hr1))
          clear hset hM4 k4
          go_wp2_with fail
          go_ret2
          exact .inr ⟨HN.out, rfl, HF.out⟩
    · obtain rfl : i = n := by omega
      have hin : ¬ (i : Int) < i := by omega
      have htr := HT.out.keep0 hkr
      have HTr := Lib.hid htr
      have HKr := Lib.hid hkr
      have hmays := okT_may HOK.out
      have HMY := Lib.hid hmays
      clear htr hkr hmays
      go_wp2_with fail
      generalize wr = wo at *
      go_loopw [41] (fun x wr => TuRel2 w wo L LN C U T l i false x wr) (fun x _ => i - (intOf x).toNat)
      case atStart => exact ⟨0, by omega, rfl, HTr.out, HMr.out, Keep.refl _ _⟩
      case round =>
        obtain ⟨j, hj, rfl, hTj, hMj, hkj⟩ := hrel
        have HMj := Lib.hid hMj
        clear hMj
        by_cases hlt : j < i
        · obtain ⟨b, o, rfl, hb, hcs⟩ := (((HI.out.keep HKr.out).keepO hkj (hA (by omega)))).cells (by omega)
          have hc := hcs j hlt
          have hlt' : (j : Int) < i := by omega
          have hmj := HMY.out j hlt
          obtain ⟨k, hk, hkall⟩ := gb_k HT.out hmj
          rw [hk] at hc
          have hpu : put U l false (j + 1) = upd (put U l false j) k false := by
            show upd (put U l false j) (l j).toNat false = _
            rw [hk, Int.toNat_natCast]
          have hpt : put T l false (j + 1) = upd (put T l false j) k false := by
            show upd (put T l false j) (l j).toNat false = _
            rw [hk, Int.toNat_natCast]
          have hsub1 : ∀ q, upd (put U l false j) k false q = true → put T l false j q = true := by
            intro q hq
            by_cases e : q = k
            · subst e
              rw [upd_same] at hq
              cases hq
            · rw [upd_far _ _ e] at hq
              exact hTj.sub q hq
          have hsub2 : ∀ q, upd (put U l false j) k false q = true → upd (put T l false j) k false q = true := by
            intro q hq
            unfold upd at hq ⊢
            by_cases e : q = k
            · (rw [if_pos e] at hq ⊢) <;> exact hq
            · rw [if_neg e] at hq ⊢
              exact hTj.sub q hq
          have hs1 := mset_any hTj.used k false
          rw [updZ_nat _ hkall] at hs1
          have hcu := hTj.cu
          have HTj := Lib.hid hTj
          have HP := Lib.hid (And.intro hpu (And.intro hpt (And.intro hsub1 hsub2)))
          clear hcs hpu hpt hsub1 hsub2 hTj hmj hk
          go_wp2_with fail
          (with_reducible refine hs1.mono ?_)
          rintro e w5 ⟨rfl, hM5, k5⟩
          have hT5 := HTj.out.setU hM5 k5 HP.out.2.2.1
          have hs2 := mset_any hT5.taken k false
          rw [updZ_nat _ hkall] at hs2
          have hck := hT5.ck
          have HT5 := Lib.hid hT5
          clear hs1 hM5 hcu hT5
          go_wp2_with fail
          (with_reducible refine hs2.mono ?_)
          rintro e w6 ⟨rfl, hM6, k6⟩
          have hT6 := HT5.out.setK hM6 k6 HP.out.2.2.2
          have hkk : Keep L.own wo w6 := (hkj.trans (Keep.u k5)).trans (Keep.k k6)
          have hM7 := HMj.out.keep ((Keep.u (L := L) k5).trans (Keep.k k6)) (fun hm => by have := hown _ hm; omega) (fun hm => by have := hown _ hm; omega)
          have HF := Lib.hid (And.intro hT6 (And.intro hM7 hkk))
          clear hs2 hM6 hT6 hkk hM7 k5 k6
          go_wp2_with fail
          go_roundw
          case rel => exact ⟨j + 1, by omega, by go_num, by rw [HP.out.1, HP.out.2.1]; exact HF.out.1, HF.out.2.1, HF.out.2.2⟩
          case measure => simp [intOf]; omega
        · obtain rfl : j = i := by omega
          have hjn : ¬ (j : Int) < j := by omega
          have hen := entries_any hTj ok LN HMj.out
          have HTj := Lib.hid hTj
          clear hTj
          go_wp2_with fail
          (with_reducible refine hen.mono ?_)
          rintro e w7 ⟨A7, cap7, rfl, hE, hEg, k7⟩
          have HF := Lib.hid (And.intro hE hEg)
          have hkw : Keep L.own w wr := HKr.out.of_nil.trans hkj
          clear hen hE hEg
          go_wp2_with fail
          go_ret2
          exact .inl ⟨HOK.out, A7, cap7, rfl, HF.out.1, fun h0 => by
            obtain ⟨g, e1, e2⟩ := HF.out.2 h0
            exact ⟨g, e1, Nat.le_trans hkw.size e2⟩, HTj.out.keep0 k7, hkw.trans k7.of_nil⟩

theorem pub_any {w : World} {L : TLoc} {C : Cf} {U T : Nat → Bool} (h : Tbl w L C U T) (ok : C.Ok) (A : Option Addr) (n cap : Nat) (l : Nat → Int) (hl : Ints w A n cap l) (hA : 0 < n → ∀ a, A = some a → a.block ∉ L.own) :
    Calls Try.prog 19 #[.pointer (some ⟨L.t, 0, none⟩), .slice A n cap] w (TurnPost L C U T (rb U T) l n true w) := by
  have hmf : ∀ (fn : Fn) (first cap : Array Value) (w : World), (Instr.makeFunc fn first cap).run Try.prog w = .ok (.func fn first cap) w := fun _ _ _ _ => rfl
  have ht := turn_pub h ok A n cap l hl hA
  clear h hl
  go_enter Try.func19, Try.ntmps19
  go_wp2_with fail
  (with_reducible refine ht.mono ?_)
  rintro e w1 (⟨hok, A1, cap1, rfl, hE, hg, hT, hk⟩ | ⟨hno, rfl, hk⟩)
  · have HF := Lib.hid (And.intro hE (And.intro hg hT))
    have HO := Lib.hid hok
    clear hE hg hT ht hok
    go_wp2
    go_ret2
    exact .inl ⟨HO.out, A1, cap1, rfl, HF.out.1, HF.out.2.1, HF.out.2.2, hk⟩
  · have HO := Lib.hid hno
    clear ht hno
    go_wp2
    go_ret2
    exact .inr ⟨HO.out, rfl, hk⟩

theorem rel_any {w : World} {L : TLoc} {C : Cf} {U T : Nat → Bool} (h : Tbl w L C U T) (ok : C.Ok) (A : Option Addr) (n cap : Nat) (l : Nat → Int) (hl : Ints w A n cap l) (hA : 0 < n → ∀ a, A = some a → a.block ∉ L.own) :
    Calls Try.prog 22 #[.pointer (some ⟨L.t, 0, none⟩), .slice A n cap] w (TurnPost L C U T (gb U) l n false w) := by
  have hmf : ∀ (fn : Fn) (first cap : Array Value) (w : World), (Instr.makeFunc fn first cap).run Try.prog w = .ok (.func fn first cap) w := fun _ _ _ _ => rfl
  have ht := turn_rel h ok A n cap l hl hA
  clear h hl
  go_enter Try.func22, Try.ntmps22
  go_wp2_with fail
  (with_reducible refine ht.mono ?_)
  rintro e w1 (⟨hok, A1, cap1, rfl, hE, hg, hT, hk⟩ | ⟨hno, rfl, hk⟩)
  · have HF := Lib.hid (And.intro hE (And.intro hg hT))
    have HO := Lib.hid hok
    clear hE hg hT ht hok
    go_wp2
    go_ret2
    exact .inl ⟨HO.out, A1, cap1, rfl, HF.out.1, HF.out.2.1, HF.out.2.2, hk⟩
  · have HO := Lib.hid hno
    clear ht hno
    go_wp2
    go_ret2
    exact .inr ⟨HO.out, rfl, hk⟩
end Go.Proofs.Ytfihaaciaobolaa
