/-
  NvmSure, walked. No conditions.
-/
import Derived.Test.YtjicfjnkammmcaaSure
namespace Go.Proofs.Ytjicfjnkammmcaa
open Go.RowKit Go.Flo

theorem quarter (x : Int) : ∃ q : Nat, q < 4 ∧ (IntKind.u64.wrap x).tmod 4 = (q : Int) := by
  rw [IntKind.wrap_u64, Int.tmod_eq_emod_of_nonneg (by omega)]
  exact ⟨((x % 18446744073709551616) % 4).toNat, by omega, by omega⟩

theorem parts48 : (Try.prog.info? 48).map (fun i => (i.zero, i.size, i.bytes)) = some (some (.slice none 0 0), 1, 24) := by kernel_rfl

/-- A row's cells, as a list of its own name. -/
def rowL (n : Nat) (f : Nat → Int) : List Value := (List.range n).map (u64 f)
theorem rowL_len (n : Nat) (f : Nat → Int) : (rowL n f).length = n := by simp [rowL]
theorem rowL_get {n j : Nat} {f : Nat → Int} {u : Value} (h : (rowL n f)[j]? = some u) : j < n ∧ u = u64 f j := by
  have hj : j < n := by
    have := (List.getElem?_eq_some_iff.1 h).1
    rwa [rowL_len] at this
  refine ⟨hj, ?_⟩
  unfold rowL at h
  simp [hj] at h
  exact h.symm
theorem rowL_row {w : World} {B n : Nat} {v : Value} {f : Nat → Int} (h : w.ownsRow B 28 1 v n (rowL n f)) (hn : 0 < n) : ∃ g cap, v = .slice (some ⟨g, 0, none⟩) n cap ∧ Row w 28 g n cap (u64 f) ∧ B ≤ g := by
  obtain ⟨_, h2⟩ := id h
  rcases h2 with ⟨_, h2⟩ | ⟨g, cap, cur, rfl, hg, _⟩
  · omega
  · exact ⟨g, cap, rfl, Row.of_owns h, hg⟩
theorem rowL_cells {w : World} {g n cap : Nat} {f : Nat → Int} (h : Row w 28 g n cap (u64 f)) : ∀ j u, (rowL n f)[j]? = some u → w.cell? ((⟨g, 0, none⟩ : Addr).add j) = some u := by
  intro j u hu
  obtain ⟨hj, rfl⟩ := rowL_get hu
  exact h.cellAdd hj
theorem rowL_one (n : Nat) (f : Nat → Int) : ∀ u ∈ rowL n f, u.oneCell' = true := by
  intro u hu
  unfold rowL at hu
  simp only [List.mem_map, List.mem_range] at hu
  obtain ⟨j, _, rfl⟩ := hu
  rfl
/-- A new row out of nil: nothing that was there has turned. -/
theorem nil_kept {w w' : World} {row : Option Nat} (hg : w.grownBy w' row) (hr : row = none) : Keep [] w w' := Keep.grown hg (fun k _ e => by rw [hr] at e; cases e)
/-- A row that is appended to: but for its own block all is kept. -/
theorem own_kept {w w' : World} {B n : Nat} {v : Value} {e : TypeId} {xs : List Value} (h : w.ownsRow B e 1 v n xs) (hg : w.grownBy w' v.ownBlock) {w0 : World} (hk : Keep [] w0 w) (hB : w0.heap.size ≤ B) : Keep [] w0 w' :=
  ⟨hg.os.trans hk.os, hg.tape.trans hk.tape, hg.output.trans hk.output, Nat.le_trans hk.size hg.size, fun k hk' _ => by
    rw [hg.block k (Nat.lt_of_lt_of_le hk' hk.size) (fun e' => by have := (h.lt k e'.symm).1; omega)]
    exact hk.block k hk' (by simp)⟩

def SvRel (w : World) (L : Loc) (len : Nat) (x : Value) (wr : World) : Prop :=
  ∃ (i : Nat) (S : St), x = .int .i64 i ∧ i ≤ len ∧ i ≤ 40 ∧ Dev wr L S ∧ 0 ≤ S.steps ∧ S.steps ≤ i ∧ Fresh S ∧ Keep [] w wr

def FlRel (w : World) (L : Loc) (x : Value) (wr : World) : Prop :=
  ∃ (j : Nat) (S : St), x = .int .i64 ((8 * j : Nat) : Int) ∧ j ≤ 4 ∧ Dev wr L S ∧ 0 ≤ S.steps ∧ S.steps ≤ 40 + j ∧ Flsd S j ∧ Keep [] w wr

/-- The moments that are laid by. -/
def Moms (w : World) (B : Nat) (xs : List Value) (mf : Nat → Nat → Int) : Prop :=
  ∀ j, j < xs.length → ∃ g cap, xs[j]? = some (.slice (some ⟨g, 0, none⟩) 32 cap) ∧ Row w 28 g 32 cap (u64 (mf j)) ∧ B ≤ g

/-- The words as they are now. -/
def NowAt (w : World) (B : Nat) (v : Value) (f : Nat → Int) : Prop := ∃ g cap, v = .slice (some ⟨g, 0, none⟩) 32 cap ∧ Row w 28 g 32 cap (u64 f) ∧ B ≤ g

def SureRel (w : World) (L : Loc) (B q len : Nat) (f0 : Nat → Int) (x v12 v13 : Value) (wr : World) : Prop :=
  ∃ (i : Nat) (S : St) (xs : List Value) (mf : Nat → Nat → Int), x = .int .i64 i ∧ i ≤ len ∧ i ≤ 8 ∧ Dev wr L S ∧ SureSt S q f0 mf xs.length ∧ 0 ≤ S.steps ∧ S.steps ≤ 50 + 2 * i ∧ xs.length ≤ i + 1 ∧
    wr.ownsRow B 48 1 v12 xs.length xs ∧ Moms wr B xs mf ∧ NowAt wr B v13 S.now ∧ Keep [] w wr ∧ B ≤ wr.heap.size

theorem Moms.keep {w w' : World} {B : Nat} {xs : List Value} {mf : Nat → Nat → Int} {own : List Nat} (h : Moms w B xs mf) (hk : Keep own w w') (ho : ∀ k ∈ own, k < B) : Moms w' B xs mf := by
  intro j hj
  obtain ⟨g, cap, h1, h2, h3⟩ := h j hj
  exact ⟨g, cap, h1, h2.keep hk (fun hm => by have := ho g hm; omega), h3⟩
theorem NowAt.keep {w w' : World} {B : Nat} {v : Value} {f : Nat → Int} {own : List Nat} (h : NowAt w B v f) (hk : Keep own w w') (ho : ∀ k ∈ own, k < B) : NowAt w' B v f := by
  obtain ⟨g, cap, h1, h2, h3⟩ := h
  exact ⟨g, cap, h1, h2.keep hk (fun hm => by have := ho g hm; omega), h3⟩

/-- Rows of words are not the row of moments: their blocks bear other types. -/
theorem row_ne {w : World} {B n m g cap : Nat} {v : Value} {xs : List Value} {f : Nat → Value} (h : w.ownsRow B 48 1 v n xs) (hr : Row w 28 g m cap f) : some g ≠ v.ownBlock := by
  intro e
  rcases h.2 with ⟨rfl, _⟩ | ⟨g', cap', cur, rfl, _, hh, _⟩
  · simp [Value.ownBlock] at e
  · simp [Value.ownBlock] at e
    subst e
    obtain ⟨c, hc, _⟩ := hr
    rw [hh] at hc
    injection hc with hc
    injection hc with _ ht
    cases ht

theorem Moms.grown {w w' : World} {B n : Nat} {v : Value} {xs ys : List Value} {mf : Nat → Nat → Int} (h : Moms w B xs mf) (ho : w.ownsRow B 48 1 v n ys) (hg : w.grownBy w' v.ownBlock) : Moms w' B xs mf := by
  intro j hj
  obtain ⟨g, cap, h1, h2, h3⟩ := h j hj
  have hne := row_ne ho h2
  obtain ⟨c, hc, r⟩ := id h2
  exact ⟨g, cap, h1, ⟨c, (hg.block g h2.lt hne).trans hc, r⟩, h3⟩
theorem NowAt.grown {w w' : World} {B n : Nat} {v u : Value} {ys : List Value} {f : Nat → Int} (h : NowAt w B u f) (ho : w.ownsRow B 48 1 v n ys) (hg : w.grownBy w' v.ownBlock) : NowAt w' B u f := by
  obtain ⟨g, cap, h1, h2, h3⟩ := h
  have hne := row_ne ho h2
  obtain ⟨c, hc, r⟩ := id h2
  exact ⟨g, cap, h1, ⟨c, (hg.block g h2.lt hne).trans hc, r⟩, h3⟩
theorem Moms.more {w : World} {B : Nat} {xs : List Value} {mf : Nat → Nat → Int} {v : Value} {f : Nat → Int} (h : Moms w B xs mf) (hv : NowAt w B v f) : Moms w B (xs ++ [v]) (more1 mf xs.length f) := by
  intro j hj
  unfold more1
  by_cases e : j = xs.length
  · subst e
    obtain ⟨g, cap, rfl, h2, h3⟩ := hv
    exact ⟨g, cap, by simp, by rw [if_pos rfl]; exact h2, h3⟩
  · simp at hj
    obtain ⟨g, cap, h1, h2, h3⟩ := h j (by omega)
    exact ⟨g, cap, by rw [List.getElem?_append_left (by omega)]; exact h1, by rw [if_neg e]; exact h2, h3⟩

/-- The row of moments, where other blocks turn. -/
theorem own_keep {w w' : World} {B n : Nat} {v : Value} {e : TypeId} {xs : List Value} {own : List Nat} (h : w.ownsRow B e 1 v n xs) (hk : Keep own w w') (ho : ∀ k ∈ own, k < B) : w'.ownsRow B e 1 v n xs := by
  refine ⟨h.1, ?_⟩
  rcases h.2 with h2 | ⟨g, cap, cur, hv, hg, hh, r⟩
  · exact .inl h2
  · exact .inr ⟨g, cap, cur, hv, hg, (hk.block g (Array.getElem?_eq_some_iff.1 hh).1 (fun hm => by have := ho g hm; omega)).trans hh, r⟩
theorem own_far {w : World} {B n : Nat} {v : Value} {e : TypeId} {xs : List Value} {p : Addr} (h : w.ownsRow B e 1 v n xs) (hp : some p.block ≠ v.ownBlock) (u : Value) : (w.setCell p u).ownsRow B e 1 v n xs := by
  refine ⟨h.1, ?_⟩
  rcases h.2 with h2 | ⟨g, cap, cur, rfl, hg, hh, r⟩
  · exact .inl h2
  · exact .inr ⟨g, cap, cur, rfl, hg, (Below.heap_setCell w p u g (fun e' => hp (by simp [Value.ownBlock, e']))).trans hh, r⟩

theorem own_dev {w w' : World} {B n : Nat} {v : Value} {e : TypeId} {xs : List Value} {L : Loc} {S : St} (hD : Dev w L S) (h : w.ownsRow B e 1 v n xs) (hg : w.grownBy w' v.ownBlock) (hL : ∀ k ∈ L.own, k < B) : Dev w' L S := by
  have hk : Keep v.ownBlock.toList w w' := Keep.grown hg (fun k _ e => by simp [e])
  refine hD.keep hk (fun k hk' hm => ?_)
  have h1 : v.ownBlock = some k := by simpa using hk'
  have := (h.lt k h1).1
  have := hL k hm
  omega

def LookRel (w9 : World) (J : Nat) (x : Value) (wr : World) : Prop := ∃ j : Nat, x = .int .i64 j ∧ j ≤ J ∧ Dr w9 wr

set_option maxRecDepth 100000 in
set_option maxHeartbeats 8000000 in
theorem walk_sure (a0 : Option Addr) (len0 cap0 : Nat) (a1 : Int) (a2 : Option Addr) (len2 cap2 : Nat) (a3 : Option Addr) (len3 cap3 : Nat) (p : Nat → Int) (z : Nat → Int) (w : World)
    (h0 : IsCalls w a0 len0 cap0) (h3 : Pk w [] a3 len3 cap3 p)
    (h2 : len2 ≤ 9223372036854775807 ∧ (0 < len2 → ∃ b o, a2 = some ⟨b, o, none⟩ ∧ b < w.heap.size ∧ ∀ i, i < len2 → w.cell? ⟨b, o + i, none⟩ = some (.int .u64 (z i)) ∧ 0 ≤ z i ∧ z i < 18446744073709551616)) :
    Calls Try.prog 6 #[.slice a0 len0 cap0, .int .i64 a1, .slice a2 len2 cap2, .slice a3 len3 cap3] w fun e w' => e = .returned (.bool true) ∧ Keep [] w w' := by
  obtain ⟨hlc, hcm, hcalls⟩ := h0
  obtain ⟨hl2, hmore⟩ := h2
  obtain ⟨q, hq, hq2⟩ := quarter a1
  obtain ⟨i0, hi0, hz0, hz1, hz2⟩ := info_parts parts28
  obtain ⟨i48, hi48, y0, y1, y2⟩ := info_parts parts48
  have HC := Lib.hid hcalls
  have HM := Lib.hid hmore
  have HQ2 := Lib.hid hq2
  clear hcalls hmore hq2
  go_enter Try.func6, Try.ntmps6
  go_wp2_with fail
  have hnew : Calls Try.prog 11 #[.int .i64 32] w (DevPost (ofS 32 fun _ => 0) w) := new_any w 32
  (with_reducible refine hnew.mono ?_)
  rintro e w1 ⟨L, rfl, hD, hf, hK⟩
  clear hnew
  go_wp2_with fail
  go_loopw [10] (fun x wr => SvRel w L len0 x wr) (fun x _ => 40 - (intOf x).toNat)
  case atStart => exact ⟨0, _, rfl, by omega, by omega, hD, by simp [ofS], by simp [ofS], ⟨rfl, ⟨rfl, rfl⟩, fun _ => rfl⟩, hK⟩
  case round =>
    obtain ⟨i, S, rfl, hi1, hi2, hD3, s0, s1, hfresh, hK4⟩ := hrel
    clear hD hK
    by_cases hlt : i < len0 ∧ i < 40
    · obtain ⟨hl, h60⟩ := hlt
      obtain ⟨b, o, rfl, hb, hat⟩ := HC.out (by omega)
      obtain ⟨c, hc⟩ := hat i hl
      have hc' := hc.keep hK4
      have c0 := hc'.c0
      have c1 := hc'.c1
      have c2 := hc'.c2
      clear hat HC
      have hl' : (i : Int) < (len0 : Int) := by omega
      have h60' : (i : Int) < 40 := by omega
      by_cases d0 : c.d = 0
      · rw [d0] at c0
        go_wp2_with fail
        go_still_tail 11, (by kernel_rfl)
        change wpList _ _ _ _ _ wr.drew
        have hst := store_any wr.drew L S (hD3.keep (own := []) (Keep.drew _) (by simp)) c.t c.u s0 (by omega)
        have hKb : Keep [] w wr.drew := hK4.trans (Keep.drew _)
        go_wp2_with fail
        (with_reducible refine hst.mono ?_)
        rintro e w3 ⟨rfl, hD5, hK5⟩
        have hK6 := hKb.into hK5 hf
        have e2 := store_steps' S c.t c.u
        have e3 := hfresh.store c.t c.u
        generalize storeS S c.t c.u = S' at *
        have HR := Lib.hid e2
        clear e2 hst hD3 hK5
        go_wp2_with fail
        have r2 := HR.out
        exact ⟨⟨i + 1, S', by go_num, by omega, by omega, hD5, by omega, by omega, e3, hK6⟩, by simp [intOf]; omega⟩
      · have d0' : (c.d == 0) = false := beq_eq_false_iff_ne.2 d0
        clear d0
        go_wp2_with fail
        exact ⟨⟨i + 1, S, by go_num, by omega, by omega, hD3, by omega, by omega, hfresh, hK4⟩, by simp [intOf]; omega⟩
    · by_cases hl : i < len0
      · have hl' : (i : Int) < (len0 : Int) := by omega
        have h60 : decide ((i : Int) < 40) = false := by simp; omega
        clear hlt HC
        generalize wr = wo at *
        have hq2 := HQ2.out
        go_wp2_with fail
        go_loopw [11] (fun x wr => FlRel w L x wr) (fun x _ => 32 - (intOf x).toNat)
        case atStart => exact ⟨0, S, rfl, by omega, hD3, s0, by omega, hfresh.flsd, hK4⟩
        case round =>
          obtain ⟨j, S2, rfl, hj, hD5, t0, t1, hfl, hK5⟩ := hrel
          clear hD3 hK4 hfresh s0 s1
          by_cases hj4 : j < 4
          · have hj' : ((8 * j : Nat) : Int) < 32 := by omega
            have hfs := flush_any wr L S2 hD5 ((8 * j : Nat) : Int) t0 (by omega)
            generalize ans (stepS S2).off (hasB S2.n ((8 * j : Nat) : Int)) = E at hfs
            have e1 := hfl.next hj4
            have e2 := flush_steps' S2 ((8 * j : Nat) : Int)
            generalize flushS S2 ((8 * j : Nat) : Int) = S' at *
            have HR := Lib.hid e2
            clear e2
            generalize hJ : ((8 * j : Nat) : Int) = J at *
            have HJ := Lib.hid hJ
            clear hJ
            have hJ1 : J ≤ 24 := by have := HJ.out; omega
            have hJ0 : 0 ≤ J := by have := HJ.out; omega
            go_wp2_with fail
            (with_reducible refine hfs.mono ?_)
            rintro e w3 ⟨rfl, hD6, hK6⟩
            have hK7 := hK5.into hK6 hf
            clear hfs
            go_wp2_with fail
            have r2 := HR.out
            have hJ := HJ.out
            exact ⟨⟨j + 1, S', by rw [← hJ]; go_num, by omega, hD6, by omega, by omega, e1, hK7⟩, by simp [intOf]; omega⟩
          · obtain rfl : j = 4 := by omega
            have hfe := fence_any wr L S2 hD5 t0 (by omega)
            have hE : ans (stepS S2).off true = 0 := by rw [hfl.calm.step.1]; rfl
            rw [hE] at hfe
            have hsu := hfl.sure q
            have hst3 : (fenceS S2).steps = S2.steps + 1 := by rw [fence_calm hfl.calm]; rfl
            generalize fenceS S2 = S3 at *
            have HS3 := Lib.hid hst3
            have HSU := Lib.hid hsu
            clear hE hst3 hsu hfl
            go_wp2_with fail
            (with_reducible refine hfe.mono ?_)
            rintro e w3 ⟨rfl, hD6, hK6⟩
            have hK7 : Keep [] w w3 := hK5.into hK6 hf
            obtain ⟨hsu, hsn⟩ := HSU.out
            have hn3 := hsu.n
            have hw3 := words_any w3 L S3 hD6
            rw [hn3] at hw3
            have hlt3 := hD6.lt
            have HOW := Lib.hid hlt3
            have s30 : 0 ≤ S3.steps := by have := HS3.out; omega
            have s31 : S3.steps ≤ 50 := by have := HS3.out; omega
            have HSU2 := Lib.hid hsu
            have HSN := Lib.hid hsn
            clear hfe hD5 hK5 hK6 hn3 hlt3 hsu hsn HSU
            go_wp2_with fail
            (with_reducible refine hw3.mono ?_)
            rintro e w4 ⟨g, cap, rfl, hR, hg, hk4⟩
            have hsz4 := hk4.size
            have hBm : w3.heap.size ≤ w4.heap.size := hsz4
            have km : Keep [] w4 (w4.alloc (.cells #[.slice (some ⟨g, 0, none⟩) 32 cap] 48)) := Keep.alloc _ _
            have hRm := hR.keep km (by simp)
            have hom : (w4.alloc (.cells #[.slice (some ⟨g, 0, none⟩) 32 cap] 48)).ownsRow w3.heap.size 48 1 (.slice (some ⟨w4.heap.size, 0, none⟩) 1 1) 1 [.slice (some ⟨g, 0, none⟩) 32 cap] :=
              ⟨rfl, .inr ⟨w4.heap.size, 1, #[.slice (some ⟨g, 0, none⟩) 32 cap], rfl, hBm, heap_alloc_new w4 _, Nat.le_refl _, by simp [maxLen], rfl, rfl⟩⟩
            have hDm := (hD6.keep hk4 (by simp)).keep km (by simp)
            have hKm : Keep [] w (w4.alloc (.cells #[.slice (some ⟨g, 0, none⟩) 32 cap] 48)) := (hK7.trans hk4).trans km
            have cm : (w4.alloc (.cells #[.slice (some ⟨g, 0, none⟩) 32 cap] 48)).cell? ⟨w4.heap.size, 0, none⟩ = some (.slice (some ⟨g, 0, none⟩) 32 cap) := (Blk.new w4 48 #[.slice (some ⟨g, 0, none⟩) 32 cap]).cell 0
            have HOM := Lib.hid hom
            clear hw3 hR hD6 hom
            have hwB : w.heap.size ≤ w3.heap.size := hK7.size
            generalize hB : w3.heap.size = B at *
            have HB := Lib.hid hB
            clear hB
            go_wp2_with (at_builtin; refine wpList_append_own_at _ rfl (.const (.slice none 0 0)) (.tmp 74) 48 rfl B 28 i0 (.int .u64 0) 1 8 Try.underlying48 hi0 hz0 hz1 hz2 rfl (by omega) (.slice none 0 0) 0 [] rfl (World.ownsRow_nil _ B 28 1) ⟨g, 0, none⟩ 32 cap (rowL 32 S3.sure) rfl ?c1 ?c2 ?c3 ?c4 ?c5 ?c6 ?_)
            case c1 => exact rowL_len _ _
            case c2 => exact rowL_cells hRm
            case c3 => exact rowL_one _ _
            case c4 => simp [maxLen]
            case c5 => omega
            case c6 => simp; omega
            intro v' w5 hown hgrow hnil hblk
            have hk5 : Keep [] (w4.alloc (.cells #[.slice (some ⟨g, 0, none⟩) 32 cap] 48)) w5 := nil_kept hgrow rfl
            have hown' : w5.ownsRow B 28 1 v' 32 (rowL 32 S3.sure) := hown
            obtain ⟨gn, capn, rfl, hRn, hgn⟩ := rowL_row hown' (by omega)
            have hD7 := hDm.keep hk5 (by simp)
            have hR5 := hRm.keep hk5 (by simp)
            have hK8 := hKm.trans hk5
            have ho5 : w5.ownsRow B 48 1 (.slice (some ⟨w4.heap.size, 0, none⟩) 1 1) 1 [.slice (some ⟨g, 0, none⟩) 32 cap] := HOM.out.kept (World.grownBy.mk hk5.os hk5.tape hk5.output hk5.size (fun k hk _ => hk5.block k hk (by simp))) (row := none) (by simp [Value.ownBlock])
            have hm5 : Moms w5 B [.slice (some ⟨g, 0, none⟩) 32 cap] (fun _ => S3.sure) := by
              intro j hj
              have : j = 0 := by simpa using hj
              subst this
              exact ⟨g, cap, rfl, hR5, by omega⟩
            have hn5 : NowAt w5 B (.slice (some ⟨gn, 0, none⟩) 32 capn) S3.now := ⟨gn, capn, rfl, hRn.congr (fun i hi => by unfold Go.Proofs.Ytjicfjnkammmcaa.u64; rw [HSN.out i hi]), hgn⟩
            have hB5 : B ≤ w5.heap.size := by have := hk5.size; simp at this; omega
            have HO5 := Lib.hid ho5
            have HM5 := Lib.hid hm5
            have HN5 := Lib.hid hn5
            clear hown hown' hgrow hnil hblk hRm hDm hKm cm HOM hR5 hRn ho5 hm5 hn5 km hk4 hk5 hK7
            go_wp2_with fail
            go_loopw [78, 12, 13] (fun x y z' wr => SureRel w L B q len2 S3.sure x y z' wr) (fun x _ _ _ => 8 - (intOf x).toNat)
            case atStart => exact ⟨0, S3, [.slice (some ⟨g, 0, none⟩) 32 cap], fun _ => S3.sure, rfl, by omega, by omega, hD7, HSU2.out, s30, by omega, by simp, HO5.out, HM5.out, HN5.out, hK8, hB5⟩
            case round =>
              obtain ⟨i3, S4, xs, mf, rfl, hi3, hi4, hD8, hsu4, t40, t41, hxs, ho8, hm8, hn8, hK9, hB9⟩ := hrel
              clear hD7 HO5 HM5 HN5 hK8 hB5 HSU2 HSN s30 s31
              obtain ⟨gn8, capn8, rfl, hRn8, hgn8⟩ := hn8
              have HSU4 := Lib.hid hsu4
              have HO8 := Lib.hid ho8
              have HM8 := Lib.hid hm8
              clear hsu4 ho8 hm8
              have HLB : ∀ k ∈ L.own, k < B := fun k hk => HOW.out k hk
              have HLB2 := Lib.hid HLB
              clear HLB
              by_cases hlt3 : i3 < len2
              · obtain ⟨b, o, rfl, hb, hat⟩ := HM.out (by omega)
                obtain ⟨hcz, hz0', hz1'⟩ := hat i3 hlt3
                have cz := (hK9.cell (p := ⟨b, o + i3, none⟩) hb (by simp)).trans hcz
                have hlt3' : (i3 : Int) < (len2 : Int) := by omega
                clear hat HM hcz
                by_cases h8 : i3 < 8
                · have h8' : (i3 : Int) < 8 := by omega
                  have h8'' : decide ((8 : Int) ≤ (i3 : Int)) = false := by simp; omega
                  obtain ⟨r, hr, hr2⟩ : ∃ r : Nat, r < 8 ∧ z i3 % 8 = (r : Int) := ⟨(z i3 % 8).toNat, by omega, by omega⟩
                  generalize hzz : z i3 = Z at *
                  have hst : Calls Try.prog 21 #[.pointer (some ⟨L.d, 0, none⟩), .int .i64 ((q : Int) * 8 + (r : Int)), .int .u64 Z] wr (Did L (storeS S4 ((8 * q + r : Nat) : Int) Z) wr (.int .i64 0)) := by
                    have := store_any wr L S4 hD8 ((8 * q + r : Nat) : Int) Z t40 (by omega)
                    have hh : hasB S4.n ((8 * q + r : Nat) : Int) = true := by rw [HSU4.out.n]; simp [hasB]; omega
                    rw [hh, HSU4.out.calm.step.1] at this
                    rw [show (q : Int) * 8 + (r : Int) = ((8 * q + r : Nat) : Int) by omega]
                    exact this
                  have hsu5 := HSU4.out.store (8 * q + r) Z (by omega) (by omega)
                  have hnow5 : (storeS S4 ((8 * q + r : Nat) : Int) Z).now = fun i => if i = 8 * q + r then Z else S4.now i := by
                    rw [store_has HSU4.out.calm (8 * q + r) Z (by rw [HSU4.out.n]; omega)]
                    rfl
                  have hs5 := store_steps' S4 ((8 * q + r : Nat) : Int) Z
                  generalize storeS S4 ((8 * q + r : Nat) : Int) Z = S5 at *
                  have HSU5 := Lib.hid hsu5
                  have HNW5 := Lib.hid hnow5
                  have HS5 := Lib.hid hs5
                  have HZZ := Lib.hid hzz
                  clear hsu5 hnow5 hs5 hzz HSU4
                  go_wp2_with fail
                  (with_reducible refine hst.mono ?_)
                  rintro e w6 ⟨rfl, hD9, hK10⟩
                  have hK11 := hK9.into hK10 hf
                  have hRn9 := hRn8.keep hK10 (fun hm => by have := HLB2.out gn8 hm; omega)
                  have hm9 := HM8.out.keep hK10 HLB2.out
                  have ho9 : w6.ownsRow B 48 1 u12 xs.length xs := own_keep HO8.out hK10 HLB2.out
                  have hB10 : B ≤ w6.heap.size := Nat.le_trans hB9 hK10.size
                  have HO9 := Lib.hid ho9
                  have HM9 := Lib.hid hm9
                  clear hst hD8 hK9 hK10 hRn8 HO8 HM8 hm9 ho9 cz hB9
                  go_wp2_with (at_builtin; refine wpList_append_own_at _ rfl (.const (.slice none 0 0)) (.tmp 95) 48 rfl B 28 i0 (.int .u64 0) 1 8 Try.underlying48 hi0 hz0 hz1 hz2 rfl (by omega) (.slice none 0 0) 0 [] rfl (World.ownsRow_nil _ B 28 1) ⟨gn8, 0, none⟩ 32 capn8 (rowL 32 S4.now) rfl ?e1 ?e2 ?e3 ?e4 ?e5 ?e6 ?_)
                  case e1 => exact rowL_len _ _
                  case e2 => exact rowL_cells hRn9
                  case e3 => exact rowL_one _ _
                  case e4 => simp [maxLen]
                  case e5 => omega
                  case e6 => omega
                  intro v7 w7 hown7 hgrow7 _ hblk7
                  have hk7 : Keep [] w6 w7 := nil_kept hgrow7 rfl
                  have hown7' : w7.ownsRow B 28 1 v7 32 (rowL 32 S4.now) := hown7
                  have hnew7 : v7.ownBlock = some w6.heap.size := by
                    rcases hblk7 with h | h
                    · exfalso
                      obtain ⟨g', cap', hv, _⟩ := rowL_row hown7' (by omega)
                      rw [hv] at h
                      simp [Value.ownBlock] at h
                    · exact h
                  obtain ⟨gw, capw, rfl, hRw, hgw⟩ := rowL_row hown7' (by omega)
                  have hgw2 : w6.heap.size ≤ gw := by
                    have : gw = w6.heap.size := by simpa [Value.ownBlock] using hnew7
                    omega
                  have hD10 := hD9.keep hk7 (by simp)
                  have hm10 := HM9.out.keep hk7 (by simp)
                  have ho10 : w7.ownsRow B 48 1 u12 xs.length xs := own_keep HO9.out hk7 (by simp)
                  have hlx : ∀ (j : Nat) (g c : Nat), xs[j]? = some (.slice (some ⟨g, 0, none⟩) 32 c) → j < xs.length → True := fun _ _ _ _ _ => trivial
                  have hwk : Keep [gw] w7 (w7.setCell ⟨gw, 8 * q + r, none⟩ (.int .u64 Z)) := Keep.setCell _ _ (by simp) _
                  have hgo : ∀ k ∈ [gw], k ∉ L.own := by
                    intro k hk hm
                    rw [List.mem_singleton] at hk
                    subst hk
                    have := HLB2.out _ hm
                    omega
                  have hD11 := hD10.keep hwk hgo
                  have hR11 : Row (w7.setCell ⟨gw, 8 * q + r, none⟩ (.int .u64 Z)) 28 gw 32 capw (Go.Proofs.Ytjicfjnkammmcaa.u64 S5.now) := (hRw.set_ (8 * q + r) (.int .u64 Z)).congr (fun i _ => by
                    unfold Go.Proofs.Ytjicfjnkammmcaa.u64
                    rw [HNW5.out]
                    dsimp only
                    split <;> rfl)
                  have hm11 : Moms (w7.setCell ⟨gw, 8 * q + r, none⟩ (.int .u64 Z)) B xs mf := by
                    intro j hj
                    obtain ⟨g', c', h1, h2, h3⟩ := HM9.out j hj
                    have hne : g' ≠ gw := by have := h2.lt; omega
                    exact ⟨g', c', h1, (h2.keep hk7 (by simp)).far hne _, h3⟩
                  have ho11 : (w7.setCell ⟨gw, 8 * q + r, none⟩ (.int .u64 Z)).ownsRow B 48 1 u12 xs.length xs := own_far (p := ⟨gw, 8 * q + r, none⟩) ho10 (row_ne ho10 hRw) _
                  have hK12 : Keep [] w (w7.setCell ⟨gw, 8 * q + r, none⟩ (.int .u64 Z)) := (hK11.trans hk7).into hwk (by
                    intro k hk
                    rw [List.mem_singleton] at hk
                    have := hK11.size
                    omega)
                  have hB12 : B ≤ (w7.setCell ⟨gw, 8 * q + r, none⟩ (.int .u64 Z)).heap.size := by have := hk7.size; have := hwk.size; omega
                  have ck := hRw.cell (show 8 * q + r < 32 by omega)
                  have zk := hRw.frozen (8 * q + r)
                  unfold Go.Proofs.Ytjicfjnkammmcaa.u64 at ck
                  have x1 : (q : Int) * 8 + (r : Int) < 32 := by omega
                  have x2 : (0 : Int) ≤ (q : Int) * 8 + (r : Int) := by omega
                  have x3 : ((q : Int) * 8 + (r : Int)).toNat = 8 * q + r := by omega
                  have x4 : q * 8 + r = 8 * q + r := by omega
                  have HO11 := Lib.hid ho11
                  have HM11 := Lib.hid hm11
                  have HR11 := Lib.hid hR11
                  clear hown7 hown7' hgrow7 hblk7 hnew7 hD9 hD10 hm10 ho10 hRn9 HO9 HM9 hR11 hm11 ho11 hlx hK11 hwk hRw
                  by_cases h3 : i3 % 3 = 1
                  · have h3' : ((i3 : Int) % 3 == 1) = true := beq_iff_eq.2 (by omega)
                    have h3'' : (i3 : Int) % 3 = 1 := by omega
                    go_wp2_with fail
                    generalize w7.setCell ⟨gw, 8 * q + r, none⟩ (.int .u64 Z) = wz at *
                    have s50 : 0 ≤ S5.steps := by have := HS5.out; omega
                    have s51 : S5.steps ≤ 51 + 2 * i3 := by have := HS5.out; omega
                    have hfs : Calls Try.prog 22 #[.pointer (some ⟨L.d, 0, none⟩), .int .i64 ((q : Int) * 8)] wz (Did L (flushS S5 ((8 * q : Nat) : Int)) wz (.int .i64 (ans (stepS S5).off (hasB S5.n ((8 * q : Nat) : Int))))) := by
                      rw [show (q : Int) * 8 = ((8 * q : Nat) : Int) by omega]
                      exact flush_any wz L S5 hD11 ((8 * q : Nat) : Int) s50 (by omega)
                    generalize ans (stepS S5).off (hasB S5.n ((8 * q : Nat) : Int)) = E at hfs
                    have hsu6 := HSU5.out.flush hq
                    have hnow6 : (flushS S5 ((8 * q : Nat) : Int)).now = S5.now := by
                      rw [flush_has HSU5.out.calm (8 * q) (by rw [HSU5.out.n]; omega)]
                      rfl
                    have hs6 := flush_steps' S5 ((8 * q : Nat) : Int)
                    generalize flushS S5 ((8 * q : Nat) : Int) = S6 at *
                    have HSU6 := Lib.hid hsu6
                    have HNW6 := Lib.hid hnow6
                    have HS6 := Lib.hid hs6
                    clear hsu6 hnow6 hs6 ck zk
                    (with_reducible refine hfs.mono ?_)
                    rintro e w8 ⟨rfl, hD12, hK13⟩
                    have hR12 := HR11.out.keep hK13 (fun hm => hgo gw (by simp) hm)
                    have hn12 : NowAt w8 B (.slice (some ⟨gw, 0, none⟩) 32 capw) S5.now := ⟨gw, capw, rfl, hR12, hgw⟩
                    have hm12 := HM11.out.keep hK13 HLB2.out
                    have ho12 : w8.ownsRow B 48 1 u12 xs.length xs := own_keep HO11.out hK13 HLB2.out
                    have hK14 := hK12.into hK13 hf
                    have hB13 : B ≤ w8.heap.size := Nat.le_trans hB12 hK13.size
                    have HN12 := Lib.hid hn12
                    have HM12 := Lib.hid hm12
                    have HO12 := Lib.hid ho12
                    clear hfs hD11 hR12 hn12 hm12 ho12 HO11 HM11 HR11 hK12 hK13 hB12
                    go_wp2_with (at_builtin; refine wpList_append_own_at _ rfl (.tmp 107) (.tmp 109) 51 rfl B 48 i48 (.slice none 0 0) 1 24 Try.underlying51 hi48 y0 y1 y2 rfl (by omega) _ xs.length xs rfl (HO12.out.alloc _) ⟨w8.heap.size, 0, none⟩ 1 1 [.slice (some ⟨gw, 0, none⟩) 32 capw] rfl rfl (cell_one_new _ _ _) (by intro u hu; simp at hu; subst hu; rfl) (by simp [maxLen]; omega) (by omega) (by simp; omega) ?_)
                    intro vm wm homm hgrm _ _
                    have ka : Keep [] w8 (w8.alloc (.cells #[.slice (some ⟨gw, 0, none⟩) 32 capw] 48)) := Keep.alloc _ _
                    have hoA := HO12.out.alloc (.cells #[.slice (some ⟨gw, 0, none⟩) 32 capw] 48)
                    have hmA := ((HM12.out.keep ka (by simp)).more (HN12.out.keep ka (by simp))).grown hoA hgrm
                    have hnA := (HN12.out.keep ka (by simp)).grown hoA hgrm
                    have hDA := own_dev (hD12.keep ka (by simp)) hoA hgrm HLB2.out
                    have hKA := own_kept hoA hgrm (hK14.trans ka) hwB
                    have hBA : B ≤ wm.heap.size := Nat.le_trans hB13 (Nat.le_trans ka.size hgrm.size)
                    have hoB : wm.ownsRow B 48 1 vm (xs ++ [Value.slice (some ⟨gw, 0, none⟩) 32 capw]).length (xs ++ [Value.slice (some ⟨gw, 0, none⟩) 32 capw]) := by
                      rw [List.length_append]
                      exact homm
                    have HOB := Lib.hid hoB
                    have HMA := Lib.hid hmA
                    have HNA := Lib.hid hnA
                    clear homm hgrm hoA hmA hnA hoB hD12 HO12 HM12 HN12 ka
                    go_wp2_with fail
                    have hs5 := HS5.out
                    have hs6 := HS6.out
                    refine ⟨⟨i3 + 1, S6, xs ++ [Value.slice (some ⟨gw, 0, none⟩) 32 capw], more1 mf xs.length S5.now, by go_num, by omega, by omega, hDA, ?_, by omega, by omega, by simp; omega, HOB.out, HMA.out, ?_, hKA, hBA⟩, by simp [intOf]; omega⟩
                    · rw [List.length_append]
                      exact HSU6.out
                    · rw [HNW6.out]
                      exact HNA.out
                  · have h3' : ((i3 : Int) % 3 == 1) = false := beq_eq_false_iff_ne.2 (by omega)
                    go_wp2_with fail
                    have hs5 := HS5.out
                    exact ⟨⟨i3 + 1, S5, xs, mf, by go_num, by omega, by omega, hD11, HSU5.out, by omega, by omega, by omega, HO11.out, HM11.out, ⟨gw, capw, rfl, HR11.out, hgw⟩, hK12, hB12⟩, by simp [intOf]; omega⟩
                · have h8' : ¬ (i3 : Int) < 8 := by omega
                  have h8'' : decide ((8 : Int) ≤ (i3 : Int)) = true := by simp; omega
                  generalize wr = wk at *
                  go_wp2_with (at_builtin; refine wpList_append_own_at _ rfl (.tmp 112) (.tmp 114) 51 rfl B 48 i48 (.slice none 0 0) 1 24 Try.underlying51 hi48 y0 y1 y2 rfl (by omega) _ xs.length xs rfl (HO8.out.alloc _) ⟨wk.heap.size, 0, none⟩ 1 1 [.slice (some ⟨gn8, 0, none⟩) 32 capn8] rfl rfl (cell_one_new _ _ _) (by intro u hu; simp at hu; subst hu; rfl) (by simp [maxLen]; omega) (by omega) (by simp; omega) ?_)
                  intro vm wm homm hgrm _ _
                  have ka : Keep [] wk (wk.alloc (.cells #[.slice (some ⟨gn8, 0, none⟩) 32 capn8] 48)) := Keep.alloc _ _
                  have hnA0 : NowAt wk B (.slice (some ⟨gn8, 0, none⟩) 32 capn8) S4.now := ⟨gn8, capn8, rfl, hRn8, hgn8⟩
                  have hoA := HO8.out.alloc (.cells #[.slice (some ⟨gn8, 0, none⟩) 32 capn8] 48)
                  have hmA := ((HM8.out.keep ka (by simp)).more (hnA0.keep ka (by simp))).grown hoA hgrm
                  have hDA := own_dev (hD8.keep ka (by simp)) hoA hgrm HLB2.out
                  have hKA := own_kept hoA hgrm (hK9.trans ka) hwB
                  have hoB : wm.ownsRow B 48 1 vm (xs.length + 1) (xs ++ [.slice (some ⟨gn8, 0, none⟩) 32 capn8]) := homm
                  obtain ⟨J, hJ, hmatch⟩ := HSU4.out.crash p
                  have hcr := crash_any wm L S4 hDA a3 len3 cap3 p (h3.lift hKA hf)
                  obtain ⟨gm, cm, cur, rfl, hgm, hcur, hcm1, hcm2, hcm3, hcm4⟩ : ∃ gm cm cur, vm = .slice (some ⟨gm, 0, none⟩) (xs.length + 1) cm ∧ B ≤ gm ∧ wm.heap[gm]? = some (.cells cur 48 (0, 0)) ∧ xs.length + 1 ≤ cm ∧ cm ≤ maxLen ∧ cur.size = cm * 1 ∧ cur.toList.take ((xs.length + 1) * 1) = xs ++ [.slice (some ⟨gn8, 0, none⟩) 32 capn8] := by
                    rcases hoB.2 with ⟨_, h⟩ | ⟨g, c, cu, a, b', c', d, e, f, g'⟩
                    · omega
                    · exact ⟨g, c, cu, a, b', c', d, e, f, g'⟩
                  have HM := Lib.hid hmA
                  have HMT := Lib.hid hmatch
                  have hn4 := HSU4.out.n
                  have HCUR := Lib.hid (And.intro hcur hcm4)
                  have HLX : (xs ++ [Value.slice (some ⟨gn8, 0, none⟩) 32 capn8]).length = xs.length + 1 := by simp
                  have HLX2 := Lib.hid HLX
                  clear homm hgrm hoA hmA hoB hmatch hcur hcm4 HLX hnA0 hRn8 hD8 HO8 HM8 hcm3
                  generalize xs ++ [Value.slice (some ⟨gn8, 0, none⟩) 32 capn8] = XS at *
                  have HN4 := Lib.hid hn4
                  clear hn4
                  generalize hXL : xs.length = XL at *
                  have HXL := Lib.hid hXL
                  clear hXL
                  go_wp2_with fail
                  (with_reducible refine hcr.mono ?_)
                  rintro e wc ⟨rfl, hDc, hKc⟩
                  have hKd := hKA.into hKc hf
                  have hmC := HM.out.keep hKc HLB2.out
                  have hcurC := (hKc.block gm (Array.getElem?_eq_some_iff.1 HCUR.out.1).1 (fun hm => by have := HLB2.out gm hm; omega)).trans HCUR.out.1
                  have hwc := words_any wc L _ hDc
                  change Calls Try.prog 28 _ wc (RowPost 28 S4.n (Go.Proofs.Ytjicfjnkammmcaa.u64 (fin S4 p)) wc) at hwc
                  rw [HN4.out] at hwc
                  have HMC := Lib.hid hmC
                  have HCC := Lib.hid hcurC
                  clear hcr hDA hmC hcurC HM hDc
                  go_wp2_with fail
                  (with_reducible refine hwc.mono ?_)
                  rintro e wd ⟨gg, capg, rfl, hRg, hgg, hkd⟩
                  have hKe := hKd.trans hkd
                  have hmD := HMC.out.keep hkd (by simp)
                  have hcD := (hkd.block gm (Array.getElem?_eq_some_iff.1 HCC.out).1 (by simp)).trans HCC.out
                  have HMD := Lib.hid hmD
                  have HCD := Lib.hid hcD
                  have HRG := Lib.hid hRg
                  clear hwc HMC HCC hmD hcD hRg hKc
                  go_wp2_with fail
                  go_loopw [123] (fun x wr => LookRel wd J x wr) (fun x _ => J + 1 - (intOf x).toNat)
                  case atStart => exact ⟨0, rfl, by omega, Dr.refl _⟩
                  case round =>
                    obtain ⟨j, rfl, hj, hdr⟩ := hrel
                    have hjc : j < XL + 1 := by omega
                    obtain ⟨g', c', hx', hR', hg'⟩ := HMD.out j (by rw [HLX2.out]; exact hjc)
                    have hcell : wr.cell? ⟨gm, j, none⟩ = some (.slice (some ⟨g', 0, none⟩) 32 c') := by
                      have : wr.heap = wd.heap := by obtain ⟨m, rfl⟩ := hdr; rfl
                      have h1 : wr.heap[gm]? = some (.cells cur 48 (0, 0)) := by rw [this]; exact HCD.out
                      rw [cell_of_row wr gm j cur 48 (0, 0) h1]
                      have h2 := HCUR.out.2
                      rw [← h2, List.getElem?_take, if_pos (by omega)] at hx'
                      simpa using hx'
                    have hjl : (j : Int) < (XL : Int) + 1 := by omega
                    have hsa := same_any wr gg 0 capg g' 0 c' 32 (fin S4 p) (more1 mf XL S4.now j) (by omega) (fun i hi => by rw [Nat.zero_add]; exact (HRG.out.dr hdr).cell hi) (fun i hi => by rw [Nat.zero_add]; exact (hR'.dr hdr).cell hi)
                    clear hx' hR'
                    by_cases hjJ : j = J
                    · have he : eqB 32 (fin S4 p) (more1 mf XL S4.now j) = true := by rw [eqB_true]; rw [hjJ]; exact HMT.out
                      rw [he] at hsa
                      clear hjJ he
                      go_wp2_with fail
                      (with_reducible refine hsa.mono ?_)
                      rintro e we ⟨rfl, de⟩
                      clear hsa
                      go_wp2_with fail
                      (with_reducible refine (awake_any we).mono ?_)
                      rintro e wf ⟨rfl, kf⟩
                      go_wp2
                      go_ret
                      exact ⟨rfl, ((hKe.trans (Keep.dr hdr)).trans (Keep.dr de)).trans kf⟩
                    · cases he : eqB 32 (fin S4 p) (more1 mf XL S4.now j)
                      · rw [he] at hsa
                        clear he
                        have hjX : j < J := by omega
                        go_wp2_with fail
                        (with_reducible refine hsa.mono ?_)
                        rintro e we ⟨rfl, de⟩
                        clear hsa
                        go_wp2_with fail
                        exact ⟨⟨j + 1, by go_num, by omega, hdr.trans de⟩, by simp [intOf]; omega⟩
                      · rw [he] at hsa
                        clear he hjJ
                        go_wp2_with fail
                        (with_reducible refine hsa.mono ?_)
                        rintro e we ⟨rfl, de⟩
                        clear hsa
                        go_wp2_with fail
                        (with_reducible refine (awake_any we).mono ?_)
                        rintro e wf ⟨rfl, kf⟩
                        go_wp2
                        go_ret
                        exact ⟨rfl, ((hKe.trans (Keep.dr hdr)).trans (Keep.dr de)).trans kf⟩
              · have hlt3' : ¬ (i3 : Int) < (len2 : Int) := by omega
                have hlt3'' : decide (i3 < len2) = false := by simp; omega
                clear HM
                generalize wr = wk at *
                go_wp2_with (at_builtin; refine wpList_append_own_at _ rfl (.tmp 112) (.tmp 114) 51 rfl B 48 i48 (.slice none 0 0) 1 24 Try.underlying51 hi48 y0 y1 y2 rfl (by omega) _ xs.length xs rfl (HO8.out.alloc _) ⟨wk.heap.size, 0, none⟩ 1 1 [.slice (some ⟨gn8, 0, none⟩) 32 capn8] rfl rfl (cell_one_new _ _ _) (by intro u hu; simp at hu; subst hu; rfl) (by simp [maxLen]; omega) (by omega) (by simp; omega) ?_)
                intro vm wm homm hgrm _ _
                have ka : Keep [] wk (wk.alloc (.cells #[.slice (some ⟨gn8, 0, none⟩) 32 capn8] 48)) := Keep.alloc _ _
                have hnA0 : NowAt wk B (.slice (some ⟨gn8, 0, none⟩) 32 capn8) S4.now := ⟨gn8, capn8, rfl, hRn8, hgn8⟩
                have hoA := HO8.out.alloc (.cells #[.slice (some ⟨gn8, 0, none⟩) 32 capn8] 48)
                have hmA := ((HM8.out.keep ka (by simp)).more (hnA0.keep ka (by simp))).grown hoA hgrm
                have hDA := own_dev (hD8.keep ka (by simp)) hoA hgrm HLB2.out
                have hKA := own_kept hoA hgrm (hK9.trans ka) hwB
                have hoB : wm.ownsRow B 48 1 vm (xs.length + 1) (xs ++ [.slice (some ⟨gn8, 0, none⟩) 32 capn8]) := homm
                obtain ⟨J, hJ, hmatch⟩ := HSU4.out.crash p
                have hcr := crash_any wm L S4 hDA a3 len3 cap3 p (h3.lift hKA hf)
                obtain ⟨gm, cm, cur, rfl, hgm, hcur, hcm1, hcm2, hcm3, hcm4⟩ : ∃ gm cm cur, vm = .slice (some ⟨gm, 0, none⟩) (xs.length + 1) cm ∧ B ≤ gm ∧ wm.heap[gm]? = some (.cells cur 48 (0, 0)) ∧ xs.length + 1 ≤ cm ∧ cm ≤ maxLen ∧ cur.size = cm * 1 ∧ cur.toList.take ((xs.length + 1) * 1) = xs ++ [.slice (some ⟨gn8, 0, none⟩) 32 capn8] := by
                  rcases hoB.2 with ⟨_, h⟩ | ⟨g, c, cu, a, b', c', d, e, f, g'⟩
                  · omega
                  · exact ⟨g, c, cu, a, b', c', d, e, f, g'⟩
                have HM := Lib.hid hmA
                have HMT := Lib.hid hmatch
                have hn4 := HSU4.out.n
                have HCUR := Lib.hid (And.intro hcur hcm4)
                have HLX : (xs ++ [Value.slice (some ⟨gn8, 0, none⟩) 32 capn8]).length = xs.length + 1 := by simp
                have HLX2 := Lib.hid HLX
                clear homm hgrm hoA hmA hoB hmatch hcur hcm4 HLX hnA0 hRn8 hD8 HO8 HM8 hcm3
                generalize xs ++ [Value.slice (some ⟨gn8, 0, none⟩) 32 capn8] = XS at *
                have HN4 := Lib.hid hn4
                clear hn4
                generalize hXL : xs.length = XL at *
                have HXL := Lib.hid hXL
                clear hXL
                go_wp2_with fail
                (with_reducible refine hcr.mono ?_)
                rintro e wc ⟨rfl, hDc, hKc⟩
                have hKd := hKA.into hKc hf
                have hmC := HM.out.keep hKc HLB2.out
                have hcurC := (hKc.block gm (Array.getElem?_eq_some_iff.1 HCUR.out.1).1 (fun hm => by have := HLB2.out gm hm; omega)).trans HCUR.out.1
                have hwc := words_any wc L _ hDc
                change Calls Try.prog 28 _ wc (RowPost 28 S4.n (Go.Proofs.Ytjicfjnkammmcaa.u64 (fin S4 p)) wc) at hwc
                rw [HN4.out] at hwc
                have HMC := Lib.hid hmC
                have HCC := Lib.hid hcurC
                clear hcr hDA hmC hcurC HM hDc
                go_wp2_with fail
                (with_reducible refine hwc.mono ?_)
                rintro e wd ⟨gg, capg, rfl, hRg, hgg, hkd⟩
                have hKe := hKd.trans hkd
                have hmD := HMC.out.keep hkd (by simp)
                have hcD := (hkd.block gm (Array.getElem?_eq_some_iff.1 HCC.out).1 (by simp)).trans HCC.out
                have HMD := Lib.hid hmD
                have HCD := Lib.hid hcD
                have HRG := Lib.hid hRg
                clear hwc HMC HCC hmD hcD hRg hKc
                go_wp2_with fail
                go_loopw [123] (fun x wr => LookRel wd J x wr) (fun x _ => J + 1 - (intOf x).toNat)
                case atStart => exact ⟨0, rfl, by omega, Dr.refl _⟩
                case round =>
                  obtain ⟨j, rfl, hj, hdr⟩ := hrel
                  have hjc : j < XL + 1 := by omega
                  obtain ⟨g', c', hx', hR', hg'⟩ := HMD.out j (by rw [HLX2.out]; exact hjc)
                  have hcell : wr.cell? ⟨gm, j, none⟩ = some (.slice (some ⟨g', 0, none⟩) 32 c') := by
                    have : wr.heap = wd.heap := by obtain ⟨m, rfl⟩ := hdr; rfl
                    have h1 : wr.heap[gm]? = some (.cells cur 48 (0, 0)) := by rw [this]; exact HCD.out
                    rw [cell_of_row wr gm j cur 48 (0, 0) h1]
                    have h2 := HCUR.out.2
                    rw [← h2, List.getElem?_take, if_pos (by omega)] at hx'
                    simpa using hx'
                  have hjl : (j : Int) < (XL : Int) + 1 := by omega
                  have hsa := same_any wr gg 0 capg g' 0 c' 32 (fin S4 p) (more1 mf XL S4.now j) (by omega) (fun i hi => by rw [Nat.zero_add]; exact (HRG.out.dr hdr).cell hi) (fun i hi => by rw [Nat.zero_add]; exact (hR'.dr hdr).cell hi)
                  clear hx' hR'
                  by_cases hjJ : j = J
                  · have he : eqB 32 (fin S4 p) (more1 mf XL S4.now j) = true := by rw [eqB_true]; rw [hjJ]; exact HMT.out
                    rw [he] at hsa
                    clear hjJ he
                    go_wp2_with fail
                    (with_reducible refine hsa.mono ?_)
                    rintro e we ⟨rfl, de⟩
                    clear hsa
                    go_wp2_with fail
                    (with_reducible refine (awake_any we).mono ?_)
                    rintro e wf ⟨rfl, kf⟩
                    go_wp2
                    go_ret
                    exact ⟨rfl, ((hKe.trans (Keep.dr hdr)).trans (Keep.dr de)).trans kf⟩
                  · cases he : eqB 32 (fin S4 p) (more1 mf XL S4.now j)
                    · rw [he] at hsa
                      clear he
                      have hjX : j < J := by omega
                      go_wp2_with fail
                      (with_reducible refine hsa.mono ?_)
                      rintro e we ⟨rfl, de⟩
                      clear hsa
                      go_wp2_with fail
                      exact ⟨⟨j + 1, by go_num, by omega, hdr.trans de⟩, by simp [intOf]; omega⟩
                    · rw [he] at hsa
                      clear he hjJ
                      go_wp2_with fail
                      (with_reducible refine hsa.mono ?_)
                      rintro e we ⟨rfl, de⟩
                      clear hsa
                      go_wp2_with fail
                      (with_reducible refine (awake_any we).mono ?_)
                      rintro e wf ⟨rfl, kf⟩
                      go_wp2
                      go_ret
                      exact ⟨rfl, ((hKe.trans (Keep.dr hdr)).trans (Keep.dr de)).trans kf⟩
      · have hl' : decide ((i : Int) < (len0 : Int)) = false := by simp; omega
        have hl2' : decide (i < len0) = false := by simp; omega
        clear hlt HC
        generalize wr = wo at *
        have hq2 := HQ2.out
        go_wp2_with fail
        go_loopw [11] (fun x wr => FlRel w L x wr) (fun x _ => 32 - (intOf x).toNat)
        case atStart => exact ⟨0, S, rfl, by omega, hD3, s0, by omega, hfresh.flsd, hK4⟩
        case round =>
          obtain ⟨j, S2, rfl, hj, hD5, t0, t1, hfl, hK5⟩ := hrel
          clear hD3 hK4 hfresh s0 s1
          by_cases hj4 : j < 4
          · have hj' : ((8 * j : Nat) : Int) < 32 := by omega
            have hfs := flush_any wr L S2 hD5 ((8 * j : Nat) : Int) t0 (by omega)
            generalize ans (stepS S2).off (hasB S2.n ((8 * j : Nat) : Int)) = E at hfs
            have e1 := hfl.next hj4
            have e2 := flush_steps' S2 ((8 * j : Nat) : Int)
            generalize flushS S2 ((8 * j : Nat) : Int) = S' at *
            have HR := Lib.hid e2
            clear e2
            generalize hJ : ((8 * j : Nat) : Int) = J at *
            have HJ := Lib.hid hJ
            clear hJ
            have hJ1 : J ≤ 24 := by have := HJ.out; omega
            have hJ0 : 0 ≤ J := by have := HJ.out; omega
            go_wp2_with fail
            (with_reducible refine hfs.mono ?_)
            rintro e w3 ⟨rfl, hD6, hK6⟩
            have hK7 := hK5.into hK6 hf
            clear hfs
            go_wp2_with fail
            have r2 := HR.out
            have hJ := HJ.out
            exact ⟨⟨j + 1, S', by rw [← hJ]; go_num, by omega, hD6, by omega, by omega, e1, hK7⟩, by simp [intOf]; omega⟩
          · obtain rfl : j = 4 := by omega
            have hfe := fence_any wr L S2 hD5 t0 (by omega)
            have hE : ans (stepS S2).off true = 0 := by rw [hfl.calm.step.1]; rfl
            rw [hE] at hfe
            have hsu := hfl.sure q
            have hst3 : (fenceS S2).steps = S2.steps + 1 := by rw [fence_calm hfl.calm]; rfl
            generalize fenceS S2 = S3 at *
            have HS3 := Lib.hid hst3
            have HSU := Lib.hid hsu
            clear hE hst3 hsu hfl
            go_wp2_with fail
            (with_reducible refine hfe.mono ?_)
            rintro e w3 ⟨rfl, hD6, hK6⟩
            have hK7 : Keep [] w w3 := hK5.into hK6 hf
            obtain ⟨hsu, hsn⟩ := HSU.out
            have hn3 := hsu.n
            have hw3 := words_any w3 L S3 hD6
            rw [hn3] at hw3
            have hlt3 := hD6.lt
            have HOW := Lib.hid hlt3
            have s30 : 0 ≤ S3.steps := by have := HS3.out; omega
            have s31 : S3.steps ≤ 50 := by have := HS3.out; omega
            have HSU2 := Lib.hid hsu
            have HSN := Lib.hid hsn
            clear hfe hD5 hK5 hK6 hn3 hlt3 hsu hsn HSU
            go_wp2_with fail
            (with_reducible refine hw3.mono ?_)
            rintro e w4 ⟨g, cap, rfl, hR, hg, hk4⟩
            have hsz4 := hk4.size
            have hBm : w3.heap.size ≤ w4.heap.size := hsz4
            have km : Keep [] w4 (w4.alloc (.cells #[.slice (some ⟨g, 0, none⟩) 32 cap] 48)) := Keep.alloc _ _
            have hRm := hR.keep km (by simp)
            have hom : (w4.alloc (.cells #[.slice (some ⟨g, 0, none⟩) 32 cap] 48)).ownsRow w3.heap.size 48 1 (.slice (some ⟨w4.heap.size, 0, none⟩) 1 1) 1 [.slice (some ⟨g, 0, none⟩) 32 cap] :=
              ⟨rfl, .inr ⟨w4.heap.size, 1, #[.slice (some ⟨g, 0, none⟩) 32 cap], rfl, hBm, heap_alloc_new w4 _, Nat.le_refl _, by simp [maxLen], rfl, rfl⟩⟩
            have hDm := (hD6.keep hk4 (by simp)).keep km (by simp)
            have hKm : Keep [] w (w4.alloc (.cells #[.slice (some ⟨g, 0, none⟩) 32 cap] 48)) := (hK7.trans hk4).trans km
            have cm : (w4.alloc (.cells #[.slice (some ⟨g, 0, none⟩) 32 cap] 48)).cell? ⟨w4.heap.size, 0, none⟩ = some (.slice (some ⟨g, 0, none⟩) 32 cap) := (Blk.new w4 48 #[.slice (some ⟨g, 0, none⟩) 32 cap]).cell 0
            have HOM := Lib.hid hom
            clear hw3 hR hD6 hom
            have hwB : w.heap.size ≤ w3.heap.size := hK7.size
            generalize hB : w3.heap.size = B at *
            have HB := Lib.hid hB
            clear hB
            go_wp2_with (at_builtin; refine wpList_append_own_at _ rfl (.const (.slice none 0 0)) (.tmp 74) 48 rfl B 28 i0 (.int .u64 0) 1 8 Try.underlying48 hi0 hz0 hz1 hz2 rfl (by omega) (.slice none 0 0) 0 [] rfl (World.ownsRow_nil _ B 28 1) ⟨g, 0, none⟩ 32 cap (rowL 32 S3.sure) rfl ?cc1 ?cc2 ?cc3 ?cc4 ?cc5 ?cc6 ?_)
            case cc1 => exact rowL_len _ _
            case cc2 => exact rowL_cells hRm
            case cc3 => exact rowL_one _ _
            case cc4 => simp [maxLen]
            case cc5 => omega
            case cc6 => simp; omega
            intro v' w5 hown hgrow hnil hblk
            have hk5 : Keep [] (w4.alloc (.cells #[.slice (some ⟨g, 0, none⟩) 32 cap] 48)) w5 := nil_kept hgrow rfl
            have hown' : w5.ownsRow B 28 1 v' 32 (rowL 32 S3.sure) := hown
            obtain ⟨gn, capn, rfl, hRn, hgn⟩ := rowL_row hown' (by omega)
            have hD7 := hDm.keep hk5 (by simp)
            have hR5 := hRm.keep hk5 (by simp)
            have hK8 := hKm.trans hk5
            have ho5 : w5.ownsRow B 48 1 (.slice (some ⟨w4.heap.size, 0, none⟩) 1 1) 1 [.slice (some ⟨g, 0, none⟩) 32 cap] := HOM.out.kept (World.grownBy.mk hk5.os hk5.tape hk5.output hk5.size (fun k hk _ => hk5.block k hk (by simp))) (row := none) (by simp [Value.ownBlock])
            have hm5 : Moms w5 B [.slice (some ⟨g, 0, none⟩) 32 cap] (fun _ => S3.sure) := by
              intro j hj
              have : j = 0 := by simpa using hj
              subst this
              exact ⟨g, cap, rfl, hR5, by omega⟩
            have hn5 : NowAt w5 B (.slice (some ⟨gn, 0, none⟩) 32 capn) S3.now := ⟨gn, capn, rfl, hRn.congr (fun i hi => by unfold Go.Proofs.Ytjicfjnkammmcaa.u64; rw [HSN.out i hi]), hgn⟩
            have hB5 : B ≤ w5.heap.size := by have := hk5.size; simp at this; omega
            have HO5 := Lib.hid ho5
            have HM5 := Lib.hid hm5
            have HN5 := Lib.hid hn5
            clear hown hown' hgrow hnil hblk hRm hDm hKm cm HOM hR5 hRn ho5 hm5 hn5 km hk4 hk5 hK7
            go_wp2_with fail
            go_loopw [78, 12, 13] (fun x y z' wr => SureRel w L B q len2 S3.sure x y z' wr) (fun x _ _ _ => 8 - (intOf x).toNat)
            case atStart => exact ⟨0, S3, [.slice (some ⟨g, 0, none⟩) 32 cap], fun _ => S3.sure, rfl, by omega, by omega, hD7, HSU2.out, s30, by omega, by simp, HO5.out, HM5.out, HN5.out, hK8, hB5⟩
            case round =>
              obtain ⟨i3, S4, xs, mf, rfl, hi3, hi4, hD8, hsu4, t40, t41, hxs, ho8, hm8, hn8, hK9, hB9⟩ := hrel
              clear hD7 HO5 HM5 HN5 hK8 hB5 HSU2 HSN s30 s31
              obtain ⟨gn8, capn8, rfl, hRn8, hgn8⟩ := hn8
              have HSU4 := Lib.hid hsu4
              have HO8 := Lib.hid ho8
              have HM8 := Lib.hid hm8
              clear hsu4 ho8 hm8
              have HLB : ∀ k ∈ L.own, k < B := fun k hk => HOW.out k hk
              have HLB2 := Lib.hid HLB
              clear HLB
              by_cases hlt3 : i3 < len2
              · obtain ⟨b, o, rfl, hb, hat⟩ := HM.out (by omega)
                obtain ⟨hcz, hz0', hz1'⟩ := hat i3 hlt3
                have cz := (hK9.cell (p := ⟨b, o + i3, none⟩) hb (by simp)).trans hcz
                have hlt3' : (i3 : Int) < (len2 : Int) := by omega
                clear hat HM hcz
                by_cases h8 : i3 < 8
                · have h8' : (i3 : Int) < 8 := by omega
                  have h8'' : decide ((8 : Int) ≤ (i3 : Int)) = false := by simp; omega
                  obtain ⟨r, hr, hr2⟩ : ∃ r : Nat, r < 8 ∧ z i3 % 8 = (r : Int) := ⟨(z i3 % 8).toNat, by omega, by omega⟩
                  generalize hzz : z i3 = Z at *
                  have hst : Calls Try.prog 21 #[.pointer (some ⟨L.d, 0, none⟩), .int .i64 ((q : Int) * 8 + (r : Int)), .int .u64 Z] wr (Did L (storeS S4 ((8 * q + r : Nat) : Int) Z) wr (.int .i64 0)) := by
                    have := store_any wr L S4 hD8 ((8 * q + r : Nat) : Int) Z t40 (by omega)
                    have hh : hasB S4.n ((8 * q + r : Nat) : Int) = true := by rw [HSU4.out.n]; simp [hasB]; omega
                    rw [hh, HSU4.out.calm.step.1] at this
                    rw [show (q : Int) * 8 + (r : Int) = ((8 * q + r : Nat) : Int) by omega]
                    exact this
                  have hsu5 := HSU4.out.store (8 * q + r) Z (by omega) (by omega)
                  have hnow5 : (storeS S4 ((8 * q + r : Nat) : Int) Z).now = fun i => if i = 8 * q + r then Z else S4.now i := by
                    rw [store_has HSU4.out.calm (8 * q + r) Z (by rw [HSU4.out.n]; omega)]
                    rfl
                  have hs5 := store_steps' S4 ((8 * q + r : Nat) : Int) Z
                  generalize storeS S4 ((8 * q + r : Nat) : Int) Z = S5 at *
                  have HSU5 := Lib.hid hsu5
                  have HNW5 := Lib.hid hnow5
                  have HS5 := Lib.hid hs5
                  have HZZ := Lib.hid hzz
                  clear hsu5 hnow5 hs5 hzz HSU4
                  go_wp2_with fail
                  (with_reducible refine hst.mono ?_)
                  rintro e w6 ⟨rfl, hD9, hK10⟩
                  have hK11 := hK9.into hK10 hf
                  have hRn9 := hRn8.keep hK10 (fun hm => by have := HLB2.out gn8 hm; omega)
                  have hm9 := HM8.out.keep hK10 HLB2.out
                  have ho9 : w6.ownsRow B 48 1 u12 xs.length xs := own_keep HO8.out hK10 HLB2.out
                  have hB10 : B ≤ w6.heap.size := Nat.le_trans hB9 hK10.size
                  have HO9 := Lib.hid ho9
                  have HM9 := Lib.hid hm9
                  clear hst hD8 hK9 hK10 hRn8 HO8 HM8 hm9 ho9 cz hB9
                  go_wp2_with (at_builtin; refine wpList_append_own_at _ rfl (.const (.slice none 0 0)) (.tmp 95) 48 rfl B 28 i0 (.int .u64 0) 1 8 Try.underlying48 hi0 hz0 hz1 hz2 rfl (by omega) (.slice none 0 0) 0 [] rfl (World.ownsRow_nil _ B 28 1) ⟨gn8, 0, none⟩ 32 capn8 (rowL 32 S4.now) rfl ?ee1 ?ee2 ?ee3 ?ee4 ?ee5 ?ee6 ?_)
                  case ee1 => exact rowL_len _ _
                  case ee2 => exact rowL_cells hRn9
                  case ee3 => exact rowL_one _ _
                  case ee4 => simp [maxLen]
                  case ee5 => omega
                  case ee6 => omega
                  intro v7 w7 hown7 hgrow7 _ hblk7
                  have hk7 : Keep [] w6 w7 := nil_kept hgrow7 rfl
                  have hown7' : w7.ownsRow B 28 1 v7 32 (rowL 32 S4.now) := hown7
                  have hnew7 : v7.ownBlock = some w6.heap.size := by
                    rcases hblk7 with h | h
                    · exfalso
                      obtain ⟨g', cap', hv, _⟩ := rowL_row hown7' (by omega)
                      rw [hv] at h
                      simp [Value.ownBlock] at h
                    · exact h
                  obtain ⟨gw, capw, rfl, hRw, hgw⟩ := rowL_row hown7' (by omega)
                  have hgw2 : w6.heap.size ≤ gw := by
                    have : gw = w6.heap.size := by simpa [Value.ownBlock] using hnew7
                    omega
                  have hD10 := hD9.keep hk7 (by simp)
                  have hm10 := HM9.out.keep hk7 (by simp)
                  have ho10 : w7.ownsRow B 48 1 u12 xs.length xs := own_keep HO9.out hk7 (by simp)
                  have hlx : ∀ (j : Nat) (g c : Nat), xs[j]? = some (.slice (some ⟨g, 0, none⟩) 32 c) → j < xs.length → True := fun _ _ _ _ _ => trivial
                  have hwk : Keep [gw] w7 (w7.setCell ⟨gw, 8 * q + r, none⟩ (.int .u64 Z)) := Keep.setCell _ _ (by simp) _
                  have hgo : ∀ k ∈ [gw], k ∉ L.own := by
                    intro k hk hm
                    rw [List.mem_singleton] at hk
                    subst hk
                    have := HLB2.out _ hm
                    omega
                  have hD11 := hD10.keep hwk hgo
                  have hR11 : Row (w7.setCell ⟨gw, 8 * q + r, none⟩ (.int .u64 Z)) 28 gw 32 capw (Go.Proofs.Ytjicfjnkammmcaa.u64 S5.now) := (hRw.set_ (8 * q + r) (.int .u64 Z)).congr (fun i _ => by
                    unfold Go.Proofs.Ytjicfjnkammmcaa.u64
                    rw [HNW5.out]
                    dsimp only
                    split <;> rfl)
                  have hm11 : Moms (w7.setCell ⟨gw, 8 * q + r, none⟩ (.int .u64 Z)) B xs mf := by
                    intro j hj
                    obtain ⟨g', c', h1, h2, h3⟩ := HM9.out j hj
                    have hne : g' ≠ gw := by have := h2.lt; omega
                    exact ⟨g', c', h1, (h2.keep hk7 (by simp)).far hne _, h3⟩
                  have ho11 : (w7.setCell ⟨gw, 8 * q + r, none⟩ (.int .u64 Z)).ownsRow B 48 1 u12 xs.length xs := own_far (p := ⟨gw, 8 * q + r, none⟩) ho10 (row_ne ho10 hRw) _
                  have hK12 : Keep [] w (w7.setCell ⟨gw, 8 * q + r, none⟩ (.int .u64 Z)) := (hK11.trans hk7).into hwk (by
                    intro k hk
                    rw [List.mem_singleton] at hk
                    have := hK11.size
                    omega)
                  have hB12 : B ≤ (w7.setCell ⟨gw, 8 * q + r, none⟩ (.int .u64 Z)).heap.size := by have := hk7.size; have := hwk.size; omega
                  have ck := hRw.cell (show 8 * q + r < 32 by omega)
                  have zk := hRw.frozen (8 * q + r)
                  unfold Go.Proofs.Ytjicfjnkammmcaa.u64 at ck
                  have x1 : (q : Int) * 8 + (r : Int) < 32 := by omega
                  have x2 : (0 : Int) ≤ (q : Int) * 8 + (r : Int) := by omega
                  have x3 : ((q : Int) * 8 + (r : Int)).toNat = 8 * q + r := by omega
                  have x4 : q * 8 + r = 8 * q + r := by omega
                  have HO11 := Lib.hid ho11
                  have HM11 := Lib.hid hm11
                  have HR11 := Lib.hid hR11
                  clear hown7 hown7' hgrow7 hblk7 hnew7 hD9 hD10 hm10 ho10 hRn9 HO9 HM9 hR11 hm11 ho11 hlx hK11 hwk hRw
                  by_cases h3 : i3 % 3 = 1
                  · have h3' : ((i3 : Int) % 3 == 1) = true := beq_iff_eq.2 (by omega)
                    have h3'' : (i3 : Int) % 3 = 1 := by omega
                    go_wp2_with fail
                    generalize w7.setCell ⟨gw, 8 * q + r, none⟩ (.int .u64 Z) = wz at *
                    have s50 : 0 ≤ S5.steps := by have := HS5.out; omega
                    have s51 : S5.steps ≤ 51 + 2 * i3 := by have := HS5.out; omega
                    have hfs : Calls Try.prog 22 #[.pointer (some ⟨L.d, 0, none⟩), .int .i64 ((q : Int) * 8)] wz (Did L (flushS S5 ((8 * q : Nat) : Int)) wz (.int .i64 (ans (stepS S5).off (hasB S5.n ((8 * q : Nat) : Int))))) := by
                      rw [show (q : Int) * 8 = ((8 * q : Nat) : Int) by omega]
                      exact flush_any wz L S5 hD11 ((8 * q : Nat) : Int) s50 (by omega)
                    generalize ans (stepS S5).off (hasB S5.n ((8 * q : Nat) : Int)) = E at hfs
                    have hsu6 := HSU5.out.flush hq
                    have hnow6 : (flushS S5 ((8 * q : Nat) : Int)).now = S5.now := by
                      rw [flush_has HSU5.out.calm (8 * q) (by rw [HSU5.out.n]; omega)]
                      rfl
                    have hs6 := flush_steps' S5 ((8 * q : Nat) : Int)
                    generalize flushS S5 ((8 * q : Nat) : Int) = S6 at *
                    have HSU6 := Lib.hid hsu6
                    have HNW6 := Lib.hid hnow6
                    have HS6 := Lib.hid hs6
                    clear hsu6 hnow6 hs6 ck zk
                    (with_reducible refine hfs.mono ?_)
                    rintro e w8 ⟨rfl, hD12, hK13⟩
                    have hR12 := HR11.out.keep hK13 (fun hm => hgo gw (by simp) hm)
                    have hn12 : NowAt w8 B (.slice (some ⟨gw, 0, none⟩) 32 capw) S5.now := ⟨gw, capw, rfl, hR12, hgw⟩
                    have hm12 := HM11.out.keep hK13 HLB2.out
                    have ho12 : w8.ownsRow B 48 1 u12 xs.length xs := own_keep HO11.out hK13 HLB2.out
                    have hK14 := hK12.into hK13 hf
                    have hB13 : B ≤ w8.heap.size := Nat.le_trans hB12 hK13.size
                    have HN12 := Lib.hid hn12
                    have HM12 := Lib.hid hm12
                    have HO12 := Lib.hid ho12
                    clear hfs hD11 hR12 hn12 hm12 ho12 HO11 HM11 HR11 hK12 hK13 hB12
                    go_wp2_with (at_builtin; refine wpList_append_own_at _ rfl (.tmp 107) (.tmp 109) 51 rfl B 48 i48 (.slice none 0 0) 1 24 Try.underlying51 hi48 y0 y1 y2 rfl (by omega) _ xs.length xs rfl (HO12.out.alloc _) ⟨w8.heap.size, 0, none⟩ 1 1 [.slice (some ⟨gw, 0, none⟩) 32 capw] rfl rfl (cell_one_new _ _ _) (by intro u hu; simp at hu; subst hu; rfl) (by simp [maxLen]; omega) (by omega) (by simp; omega) ?_)
                    intro vm wm homm hgrm _ _
                    have ka : Keep [] w8 (w8.alloc (.cells #[.slice (some ⟨gw, 0, none⟩) 32 capw] 48)) := Keep.alloc _ _
                    have hoA := HO12.out.alloc (.cells #[.slice (some ⟨gw, 0, none⟩) 32 capw] 48)
                    have hmA := ((HM12.out.keep ka (by simp)).more (HN12.out.keep ka (by simp))).grown hoA hgrm
                    have hnA := (HN12.out.keep ka (by simp)).grown hoA hgrm
                    have hDA := own_dev (hD12.keep ka (by simp)) hoA hgrm HLB2.out
                    have hKA := own_kept hoA hgrm (hK14.trans ka) hwB
                    have hBA : B ≤ wm.heap.size := Nat.le_trans hB13 (Nat.le_trans ka.size hgrm.size)
                    have hoB : wm.ownsRow B 48 1 vm (xs ++ [Value.slice (some ⟨gw, 0, none⟩) 32 capw]).length (xs ++ [Value.slice (some ⟨gw, 0, none⟩) 32 capw]) := by
                      rw [List.length_append]
                      exact homm
                    have HOB := Lib.hid hoB
                    have HMA := Lib.hid hmA
                    have HNA := Lib.hid hnA
                    clear homm hgrm hoA hmA hnA hoB hD12 HO12 HM12 HN12 ka
                    go_wp2_with fail
                    have hs5 := HS5.out
                    have hs6 := HS6.out
                    refine ⟨⟨i3 + 1, S6, xs ++ [Value.slice (some ⟨gw, 0, none⟩) 32 capw], more1 mf xs.length S5.now, by go_num, by omega, by omega, hDA, ?_, by omega, by omega, by simp; omega, HOB.out, HMA.out, ?_, hKA, hBA⟩, by simp [intOf]; omega⟩
                    · rw [List.length_append]
                      exact HSU6.out
                    · rw [HNW6.out]
                      exact HNA.out
                  · have h3' : ((i3 : Int) % 3 == 1) = false := beq_eq_false_iff_ne.2 (by omega)
                    go_wp2_with fail
                    have hs5 := HS5.out
                    exact ⟨⟨i3 + 1, S5, xs, mf, by go_num, by omega, by omega, hD11, HSU5.out, by omega, by omega, by omega, HO11.out, HM11.out, ⟨gw, capw, rfl, HR11.out, hgw⟩, hK12, hB12⟩, by simp [intOf]; omega⟩
                · have h8' : ¬ (i3 : Int) < 8 := by omega
                  have h8'' : decide ((8 : Int) ≤ (i3 : Int)) = true := by simp; omega
                  generalize wr = wk at *
                  go_wp2_with (at_builtin; refine wpList_append_own_at _ rfl (.tmp 112) (.tmp 114) 51 rfl B 48 i48 (.slice none 0 0) 1 24 Try.underlying51 hi48 y0 y1 y2 rfl (by omega) _ xs.length xs rfl (HO8.out.alloc _) ⟨wk.heap.size, 0, none⟩ 1 1 [.slice (some ⟨gn8, 0, none⟩) 32 capn8] rfl rfl (cell_one_new _ _ _) (by intro u hu; simp at hu; subst hu; rfl) (by simp [maxLen]; omega) (by omega) (by simp; omega) ?_)
                  intro vm wm homm hgrm _ _
                  have ka : Keep [] wk (wk.alloc (.cells #[.slice (some ⟨gn8, 0, none⟩) 32 capn8] 48)) := Keep.alloc _ _
                  have hnA0 : NowAt wk B (.slice (some ⟨gn8, 0, none⟩) 32 capn8) S4.now := ⟨gn8, capn8, rfl, hRn8, hgn8⟩
                  have hoA := HO8.out.alloc (.cells #[.slice (some ⟨gn8, 0, none⟩) 32 capn8] 48)
                  have hmA := ((HM8.out.keep ka (by simp)).more (hnA0.keep ka (by simp))).grown hoA hgrm
                  have hDA := own_dev (hD8.keep ka (by simp)) hoA hgrm HLB2.out
                  have hKA := own_kept hoA hgrm (hK9.trans ka) hwB
                  have hoB : wm.ownsRow B 48 1 vm (xs.length + 1) (xs ++ [.slice (some ⟨gn8, 0, none⟩) 32 capn8]) := homm
                  obtain ⟨J, hJ, hmatch⟩ := HSU4.out.crash p
                  have hcr := crash_any wm L S4 hDA a3 len3 cap3 p (h3.lift hKA hf)
                  obtain ⟨gm, cm, cur, rfl, hgm, hcur, hcm1, hcm2, hcm3, hcm4⟩ : ∃ gm cm cur, vm = .slice (some ⟨gm, 0, none⟩) (xs.length + 1) cm ∧ B ≤ gm ∧ wm.heap[gm]? = some (.cells cur 48 (0, 0)) ∧ xs.length + 1 ≤ cm ∧ cm ≤ maxLen ∧ cur.size = cm * 1 ∧ cur.toList.take ((xs.length + 1) * 1) = xs ++ [.slice (some ⟨gn8, 0, none⟩) 32 capn8] := by
                    rcases hoB.2 with ⟨_, h⟩ | ⟨g, c, cu, a, b', c', d, e, f, g'⟩
                    · omega
                    · exact ⟨g, c, cu, a, b', c', d, e, f, g'⟩
                  have HM := Lib.hid hmA
                  have HMT := Lib.hid hmatch
                  have hn4 := HSU4.out.n
                  have HCUR := Lib.hid (And.intro hcur hcm4)
                  have HLX : (xs ++ [Value.slice (some ⟨gn8, 0, none⟩) 32 capn8]).length = xs.length + 1 := by simp
                  have HLX2 := Lib.hid HLX
                  clear homm hgrm hoA hmA hoB hmatch hcur hcm4 HLX hnA0 hRn8 hD8 HO8 HM8 hcm3
                  generalize xs ++ [Value.slice (some ⟨gn8, 0, none⟩) 32 capn8] = XS at *
                  have HN4 := Lib.hid hn4
                  clear hn4
                  generalize hXL : xs.length = XL at *
                  have HXL := Lib.hid hXL
                  clear hXL
                  go_wp2_with fail
                  (with_reducible refine hcr.mono ?_)
                  rintro e wc ⟨rfl, hDc, hKc⟩
                  have hKd := hKA.into hKc hf
                  have hmC := HM.out.keep hKc HLB2.out
                  have hcurC := (hKc.block gm (Array.getElem?_eq_some_iff.1 HCUR.out.1).1 (fun hm => by have := HLB2.out gm hm; omega)).trans HCUR.out.1
                  have hwc := words_any wc L _ hDc
                  change Calls Try.prog 28 _ wc (RowPost 28 S4.n (Go.Proofs.Ytjicfjnkammmcaa.u64 (fin S4 p)) wc) at hwc
                  rw [HN4.out] at hwc
                  have HMC := Lib.hid hmC
                  have HCC := Lib.hid hcurC
                  clear hcr hDA hmC hcurC HM hDc
                  go_wp2_with fail
                  (with_reducible refine hwc.mono ?_)
                  rintro e wd ⟨gg, capg, rfl, hRg, hgg, hkd⟩
                  have hKe := hKd.trans hkd
                  have hmD := HMC.out.keep hkd (by simp)
                  have hcD := (hkd.block gm (Array.getElem?_eq_some_iff.1 HCC.out).1 (by simp)).trans HCC.out
                  have HMD := Lib.hid hmD
                  have HCD := Lib.hid hcD
                  have HRG := Lib.hid hRg
                  clear hwc HMC HCC hmD hcD hRg hKc
                  go_wp2_with fail
                  go_loopw [123] (fun x wr => LookRel wd J x wr) (fun x _ => J + 1 - (intOf x).toNat)
                  case atStart => exact ⟨0, rfl, by omega, Dr.refl _⟩
                  case round =>
                    obtain ⟨j, rfl, hj, hdr⟩ := hrel
                    have hjc : j < XL + 1 := by omega
                    obtain ⟨g', c', hx', hR', hg'⟩ := HMD.out j (by rw [HLX2.out]; exact hjc)
                    have hcell : wr.cell? ⟨gm, j, none⟩ = some (.slice (some ⟨g', 0, none⟩) 32 c') := by
                      have : wr.heap = wd.heap := by obtain ⟨m, rfl⟩ := hdr; rfl
                      have h1 : wr.heap[gm]? = some (.cells cur 48 (0, 0)) := by rw [this]; exact HCD.out
                      rw [cell_of_row wr gm j cur 48 (0, 0) h1]
                      have h2 := HCUR.out.2
                      rw [← h2, List.getElem?_take, if_pos (by omega)] at hx'
                      simpa using hx'
                    have hjl : (j : Int) < (XL : Int) + 1 := by omega
                    have hsa := same_any wr gg 0 capg g' 0 c' 32 (fin S4 p) (more1 mf XL S4.now j) (by omega) (fun i hi => by rw [Nat.zero_add]; exact (HRG.out.dr hdr).cell hi) (fun i hi => by rw [Nat.zero_add]; exact (hR'.dr hdr).cell hi)
                    clear hx' hR'
                    by_cases hjJ : j = J
                    · have he : eqB 32 (fin S4 p) (more1 mf XL S4.now j) = true := by rw [eqB_true]; rw [hjJ]; exact HMT.out
                      rw [he] at hsa
                      clear hjJ he
                      go_wp2_with fail
                      (with_reducible refine hsa.mono ?_)
                      rintro e we ⟨rfl, de⟩
                      clear hsa
                      go_wp2_with fail
                      (with_reducible refine (awake_any we).mono ?_)
                      rintro e wf ⟨rfl, kf⟩
                      go_wp2
                      go_ret
                      exact ⟨rfl, ((hKe.trans (Keep.dr hdr)).trans (Keep.dr de)).trans kf⟩
                    · cases he : eqB 32 (fin S4 p) (more1 mf XL S4.now j)
                      · rw [he] at hsa
                        clear he
                        have hjX : j < J := by omega
                        go_wp2_with fail
                        (with_reducible refine hsa.mono ?_)
                        rintro e we ⟨rfl, de⟩
                        clear hsa
                        go_wp2_with fail
                        exact ⟨⟨j + 1, by go_num, by omega, hdr.trans de⟩, by simp [intOf]; omega⟩
                      · rw [he] at hsa
                        clear he hjJ
                        go_wp2_with fail
                        (with_reducible refine hsa.mono ?_)
                        rintro e we ⟨rfl, de⟩
                        clear hsa
                        go_wp2_with fail
                        (with_reducible refine (awake_any we).mono ?_)
                        rintro e wf ⟨rfl, kf⟩
                        go_wp2
                        go_ret
                        exact ⟨rfl, ((hKe.trans (Keep.dr hdr)).trans (Keep.dr de)).trans kf⟩
              · have hlt3' : ¬ (i3 : Int) < (len2 : Int) := by omega
                have hlt3'' : decide (i3 < len2) = false := by simp; omega
                clear HM
                generalize wr = wk at *
                go_wp2_with (at_builtin; refine wpList_append_own_at _ rfl (.tmp 112) (.tmp 114) 51 rfl B 48 i48 (.slice none 0 0) 1 24 Try.underlying51 hi48 y0 y1 y2 rfl (by omega) _ xs.length xs rfl (HO8.out.alloc _) ⟨wk.heap.size, 0, none⟩ 1 1 [.slice (some ⟨gn8, 0, none⟩) 32 capn8] rfl rfl (cell_one_new _ _ _) (by intro u hu; simp at hu; subst hu; rfl) (by simp [maxLen]; omega) (by omega) (by simp; omega) ?_)
                intro vm wm homm hgrm _ _
                have ka : Keep [] wk (wk.alloc (.cells #[.slice (some ⟨gn8, 0, none⟩) 32 capn8] 48)) := Keep.alloc _ _
                have hnA0 : NowAt wk B (.slice (some ⟨gn8, 0, none⟩) 32 capn8) S4.now := ⟨gn8, capn8, rfl, hRn8, hgn8⟩
                have hoA := HO8.out.alloc (.cells #[.slice (some ⟨gn8, 0, none⟩) 32 capn8] 48)
                have hmA := ((HM8.out.keep ka (by simp)).more (hnA0.keep ka (by simp))).grown hoA hgrm
                have hDA := own_dev (hD8.keep ka (by simp)) hoA hgrm HLB2.out
                have hKA := own_kept hoA hgrm (hK9.trans ka) hwB
                have hoB : wm.ownsRow B 48 1 vm (xs.length + 1) (xs ++ [.slice (some ⟨gn8, 0, none⟩) 32 capn8]) := homm
                obtain ⟨J, hJ, hmatch⟩ := HSU4.out.crash p
                have hcr := crash_any wm L S4 hDA a3 len3 cap3 p (h3.lift hKA hf)
                obtain ⟨gm, cm, cur, rfl, hgm, hcur, hcm1, hcm2, hcm3, hcm4⟩ : ∃ gm cm cur, vm = .slice (some ⟨gm, 0, none⟩) (xs.length + 1) cm ∧ B ≤ gm ∧ wm.heap[gm]? = some (.cells cur 48 (0, 0)) ∧ xs.length + 1 ≤ cm ∧ cm ≤ maxLen ∧ cur.size = cm * 1 ∧ cur.toList.take ((xs.length + 1) * 1) = xs ++ [.slice (some ⟨gn8, 0, none⟩) 32 capn8] := by
                  rcases hoB.2 with ⟨_, h⟩ | ⟨g, c, cu, a, b', c', d, e, f, g'⟩
                  · omega
                  · exact ⟨g, c, cu, a, b', c', d, e, f, g'⟩
                have HM := Lib.hid hmA
                have HMT := Lib.hid hmatch
                have hn4 := HSU4.out.n
                have HCUR := Lib.hid (And.intro hcur hcm4)
                have HLX : (xs ++ [Value.slice (some ⟨gn8, 0, none⟩) 32 capn8]).length = xs.length + 1 := by simp
                have HLX2 := Lib.hid HLX
                clear homm hgrm hoA hmA hoB hmatch hcur hcm4 HLX hnA0 hRn8 hD8 HO8 HM8 hcm3
                generalize xs ++ [Value.slice (some ⟨gn8, 0, none⟩) 32 capn8] = XS at *
                have HN4 := Lib.hid hn4
                clear hn4
                generalize hXL : xs.length = XL at *
                have HXL := Lib.hid hXL
                clear hXL
                go_wp2_with fail
                (with_reducible refine hcr.mono ?_)
                rintro e wc ⟨rfl, hDc, hKc⟩
                have hKd := hKA.into hKc hf
                have hmC := HM.out.keep hKc HLB2.out
                have hcurC := (hKc.block gm (Array.getElem?_eq_some_iff.1 HCUR.out.1).1 (fun hm => by have := HLB2.out gm hm; omega)).trans HCUR.out.1
                have hwc := words_any wc L _ hDc
                change Calls Try.prog 28 _ wc (RowPost 28 S4.n (Go.Proofs.Ytjicfjnkammmcaa.u64 (fin S4 p)) wc) at hwc
                rw [HN4.out] at hwc
                have HMC := Lib.hid hmC
                have HCC := Lib.hid hcurC
                clear hcr hDA hmC hcurC HM hDc
                go_wp2_with fail
                (with_reducible refine hwc.mono ?_)
                rintro e wd ⟨gg, capg, rfl, hRg, hgg, hkd⟩
                have hKe := hKd.trans hkd
                have hmD := HMC.out.keep hkd (by simp)
                have hcD := (hkd.block gm (Array.getElem?_eq_some_iff.1 HCC.out).1 (by simp)).trans HCC.out
                have HMD := Lib.hid hmD
                have HCD := Lib.hid hcD
                have HRG := Lib.hid hRg
                clear hwc HMC HCC hmD hcD hRg hKc
                go_wp2_with fail
                go_loopw [123] (fun x wr => LookRel wd J x wr) (fun x _ => J + 1 - (intOf x).toNat)
                case atStart => exact ⟨0, rfl, by omega, Dr.refl _⟩
                case round =>
                  obtain ⟨j, rfl, hj, hdr⟩ := hrel
                  have hjc : j < XL + 1 := by omega
                  obtain ⟨g', c', hx', hR', hg'⟩ := HMD.out j (by rw [HLX2.out]; exact hjc)
                  have hcell : wr.cell? ⟨gm, j, none⟩ = some (.slice (some ⟨g', 0, none⟩) 32 c') := by
                    have : wr.heap = wd.heap := by obtain ⟨m, rfl⟩ := hdr; rfl
                    have h1 : wr.heap[gm]? = some (.cells cur 48 (0, 0)) := by rw [this]; exact HCD.out
                    rw [cell_of_row wr gm j cur 48 (0, 0) h1]
                    have h2 := HCUR.out.2
                    rw [← h2, List.getElem?_take, if_pos (by omega)] at hx'
                    simpa using hx'
                  have hjl : (j : Int) < (XL : Int) + 1 := by omega
                  have hsa := same_any wr gg 0 capg g' 0 c' 32 (fin S4 p) (more1 mf XL S4.now j) (by omega) (fun i hi => by rw [Nat.zero_add]; exact (HRG.out.dr hdr).cell hi) (fun i hi => by rw [Nat.zero_add]; exact (hR'.dr hdr).cell hi)
                  clear hx' hR'
                  by_cases hjJ : j = J
                  · have he : eqB 32 (fin S4 p) (more1 mf XL S4.now j) = true := by rw [eqB_true]; rw [hjJ]; exact HMT.out
                    rw [he] at hsa
                    clear hjJ he
                    go_wp2_with fail
                    (with_reducible refine hsa.mono ?_)
                    rintro e we ⟨rfl, de⟩
                    clear hsa
                    go_wp2_with fail
                    (with_reducible refine (awake_any we).mono ?_)
                    rintro e wf ⟨rfl, kf⟩
                    go_wp2
                    go_ret
                    exact ⟨rfl, ((hKe.trans (Keep.dr hdr)).trans (Keep.dr de)).trans kf⟩
                  · cases he : eqB 32 (fin S4 p) (more1 mf XL S4.now j)
                    · rw [he] at hsa
                      clear he
                      have hjX : j < J := by omega
                      go_wp2_with fail
                      (with_reducible refine hsa.mono ?_)
                      rintro e we ⟨rfl, de⟩
                      clear hsa
                      go_wp2_with fail
                      exact ⟨⟨j + 1, by go_num, by omega, hdr.trans de⟩, by simp [intOf]; omega⟩
                    · rw [he] at hsa
                      clear he hjJ
                      go_wp2_with fail
                      (with_reducible refine hsa.mono ?_)
                      rintro e we ⟨rfl, de⟩
                      clear hsa
                      go_wp2_with fail
                      (with_reducible refine (awake_any we).mono ?_)
                      rintro e wf ⟨rfl, kf⟩
                      go_wp2
                      go_ret
                      exact ⟨rfl, ((hKe.trans (Keep.dr hdr)).trans (Keep.dr de)).trans kf⟩
end Go.Proofs.Ytjicfjnkammmcaa
