/-
  The document's own device (scullionref3): Copy; devices side by side. No conditions but what a device is.
-/
import Derived.Test.YtjicfjnkammmcaaLike
import Derived.Test.YtjicfjnkammmcaaRef7
namespace Go.Proofs.Ytjicfjnkammmcaa
open Go.RowKit Go.Flo
set_option linter.unusedVariables false

/-- Other blocks that were not there are none of a device's. -/
theorem TwinE.more {w w' : World} {T : TLoc} {D D2 : List Nat} {S : St} (h : TwinE w T D S) (hk : Keep [] w w') (h2 : ∀ k ∈ D2, w.heap.size ≤ k ∧ k < w'.heap.size) (hT : ∀ k ∈ T.own, k < w.heap.size) : TwinE w' T (D ++ D2) S := by
  obtain ⟨X, fz, c, h⟩ := h
  have h' := h.keepT hk
  have hm := hT T.m (by simp [TLoc.own])
  have hl := hT T.l (by simp [TLoc.own])
  have imm : ∀ v k f, Imm w (T.m :: T.l :: D) v k f → Imm w' (T.m :: T.l :: (D ++ D2)) v k f := by
    rintro v k f ⟨g, cap, e, hR, hg⟩
    refine ⟨g, cap, e, hR.keep hk (by simp), fun hmm => ?_⟩
    simp only [List.mem_cons, List.mem_append, not_or] at hmm hg
    rcases hmm with h1 | h1 | h1 | h1
    · exact hg.1 h1
    · exact hg.2.1 h1
    · exact hg.2.2 h1
    · have := (h2 g h1).1
      have := hR.lt
      omega
  refine ⟨X, fz, c, { h' with mD := fun hmm => ?_, lD := fun hmm => ?_, dlt := fun k hk' => ?_, ok := fun i hi' => ?_ }⟩
  · rcases List.mem_append.1 hmm with h1 | h1
    · exact h.mD h1
    · have := (h2 _ h1).1; omega
  · rcases List.mem_append.1 hmm with h1 | h1
    · exact h.lD h1
    · have := (h2 _ h1).1; omega
  · rcases List.mem_append.1 hk' with h1 | h1
    · exact h'.dlt k h1
    · exact (h2 k h1).2
  · have ho := h.ok i hi'
    exact ⟨imm _ _ _ ho.now, imm _ _ _ ho.sure, fun hb => imm _ _ _ (ho.at_ hb), ho.fl, ho.va⟩

/-- Another such device's blocks are none of a device's. -/
theorem TwinE.beside {w : World} {T T2 : TLoc} {D D2 : List Nat} {S S2 : St} (h : TwinE w T D S) (h2 : TwinE w T2 D2 S2) (hn : 0 < nl S2.n) (hd : ∀ k ∈ T.own, k ∉ T2.own) : TwinE w T (D ++ T2.own) S := by
  obtain ⟨X, fz, c, h⟩ := h
  obtain ⟨X2, fz2, c2, h2⟩ := h2
  have b1 := h2.blk
  have b2 := h2.lblk hn
  have imm : ∀ v k f, Imm w (T.m :: T.l :: D) v k f → Imm w (T.m :: T.l :: (D ++ T2.own)) v k f := by
    rintro v k f ⟨g, cap, e, hR, hg⟩
    refine ⟨g, cap, e, hR, fun hmm => ?_⟩
    simp only [TLoc.own, List.mem_cons, List.mem_append, not_or, List.not_mem_nil, or_false] at hmm hg
    rcases hmm with h1 | h1 | h1 | h1 | h1
    · exact hg.1 h1
    · exact hg.2.1 h1
    · exact hg.2.2 h1
    · exact row_blk_ne hR b1 (by decide) h1
    · exact row_blk_ne hR b2 (by decide) h1
  refine ⟨X, fz, c, { h with mD := fun hmm => ?_, lD := fun hmm => ?_, dlt := fun k hk' => ?_, ok := fun i hi' => ?_ }⟩
  · rcases List.mem_append.1 hmm with h1 | h1
    · exact h.mD h1
    · exact hd _ (by simp [TLoc.own]) h1
  · rcases List.mem_append.1 hmm with h1 | h1
    · exact h.lD h1
    · exact hd _ (by simp [TLoc.own]) h1
  · rcases List.mem_append.1 hk' with h1 | h1
    · exact h.dlt k h1
    · simp only [TLoc.own, List.mem_cons, List.not_mem_nil, or_false] at h1
      rcases h1 with rfl | rfl
      · exact b1.lt
      · exact b2.lt
  · have ho := h.ok i hi'
    exact ⟨imm _ _ _ ho.now, imm _ _ _ ho.sure, fun hb => imm _ _ _ (ho.at_ hb), ho.fl, ho.va⟩

def RCopyPost (D : List Nat) (S : St) (w : World) (e : Ending) (w' : World) : Prop :=
  ∃ T : TLoc, e = .returned (.pointer (some ⟨T.m, 0, none⟩)) ∧ TwinE w' T D S ∧ (∀ k ∈ T.own, w.heap.size ≤ k ∧ k < w'.heap.size) ∧ Keep [] w w'

/-- The copy, read off memory. -/
theorem copied_twin {w w' : World} {T : TLoc} {D : List Nat} {S : St} {X : Nat → Nat → Value} {fz : Int} {c : Array Value} (h : Twin w T D S X fz c) (h0 : 0 < nl S.n) (hk : Keep [] w w') {M g cap : Nat}
    (hB : Blk w' M 63 #[.int .i64 S.n, .slice (some ⟨g, 0, none⟩) (nl S.n) cap, .int .i64 S.steps, .int .i64 fz, .bool S.off]) (hrow : w'.ownsRow w.heap.size 65 4 (.slice (some ⟨g, 0, none⟩) (nl S.n) cap) (nl S.n) (c.toList.take (nl S.n * 4))) (hM : w.heap.size ≤ M) :
    ∃ T2 : TLoc, T2.m = M ∧ TwinE w' T2 D S ∧ (∀ k ∈ T2.own, w.heap.size ≤ k ∧ k < w'.heap.size) := by
  rcases hrow.2 with ⟨hv, _⟩ | ⟨g', cap', cur, hv, hg, hh, hc1, hc2, hc3, hc4⟩
  · cases hv
  injection hv with e1 e2 e3
  injection e1 with e1
  injection e1 with e1
  subst e1 e3
  unfold maxLen at hc2
  have hh' : Blk w' g 65 cur := hh
  have hMD : M ∉ D := fun hm => by have := h.dlt M hm; omega
  have hgD : g ∉ D := fun hm => by have := h.dlt g hm; omega
  have hne : g ≠ M := by
    intro e
    subst e
    exact own4_ne hrow hB (by decide) (by simp [Value.ownBlock])
  have imm : ∀ v k f, Imm w (T.m :: T.l :: D) v k f → Imm w' (M :: g :: D) v k f := by
    rintro v k f ⟨x, cp, e, hR, hx⟩
    have hR' := hR.keep hk (by simp)
    refine ⟨x, cp, e, hR', fun hmm => ?_⟩
    simp only [List.mem_cons, not_or] at hmm hx
    rcases hmm with h1 | h1 | h1
    · exact row_blk_ne hR' hB (by decide) h1
    · exact row_blk_ne hR' hh' (by decide) h1
    · exact hx.2.2 h1
  refine ⟨⟨M, g, cap, some ⟨g, 0, none⟩⟩, rfl, ⟨X, fz, cur, ?_⟩, ?_⟩
  · exact { blk := hB, fuse := h.fuse, f0 := h.f0, f1 := h.f1, n := h.n, capl := hc1, capm := by show cap ≤ _; omega, mD := hMD, lD := hgD, dlt := fun k hk' => Nat.lt_of_lt_of_le (h.dlt k hk') hk.size, lm := fun _ => hne, adr := fun _ => rfl, lblk := fun _ => hh', lsz := by omega,
            cells := fun i hi' r hr => by
              have h1 := h.cells i hi' r hr
              have h2 : (c.toList.take (nl S.n * 4))[i * 4 + r]? = some (X i r) := by
                rw [List.getElem?_take, if_pos (by omega)]
                simpa using h1
              rw [← hc4, List.getElem?_take, if_pos (by omega)] at h2
              simpa using h2,
            ok := fun i hi' => by
              have ho := h.ok i hi'
              exact ⟨imm _ _ _ ho.now, imm _ _ _ ho.sure, fun hb => imm _ _ _ (ho.at_ hb), ho.fl, ho.va⟩ }
  · have hgl := hh'.lt
    have hMl := hB.lt
    simp only [TLoc.own, List.mem_cons, List.not_mem_nil, or_false]
    rintro k (rfl | rfl)
    · exact ⟨hM, hMl⟩
    · exact ⟨hg, hgl⟩

set_option maxHeartbeats 4000000 in
theorem rcopy_any (w : World) (T : TLoc) (D : List Nat) (S : St) (hT : TwinE w T D S) (h0 : 0 < nl S.n) (hTl : ∀ k ∈ T.own, k < w.heap.size) :
    Calls Try.prog 17 #[.pointer (some ⟨T.m, 0, none⟩)] w (RCopyPost D S w) := by
  obtain ⟨i65, hi65, z65a, z65b, z65c⟩ := info_parts parts65
  obtain ⟨X, fz, c, h⟩ := hT
  have c0 := h.c0
  have c1 := h.c1
  have hA := h.adr h0
  rw [hA] at c1
  have c2 := h.c2
  have c3 := h.c3
  have c4 := h.c4
  have hml := h.blk.lt
  have hll := (h.lblk h0).lt
  have hn : nl S.n ≤ 65536 := by have := h.n; unfold nl; omega
  have hcapl := h.capl
  have hcapm := h.capm
  have hlen : (c.toList.take (nl S.n * 4)).length = nl S.n * 4 := by have := h.lsz; simp; omega
  have hnews : ∀ W, Keep [] w W → ∀ j u, (c.toList.take (nl S.n * 4))[j]? = some u → W.cell? ((⟨T.l, 0, none⟩ : Addr).add j) = some u := by
    intro W kW j u hu
    have hj : j < nl S.n * 4 := by
      have := (List.getElem?_eq_some_iff.1 hu).1
      omega
    rw [List.getElem?_take, if_pos hj] at hu
    have e : (⟨T.l, 0, none⟩ : Addr).add j = ⟨T.l, j, none⟩ := by unfold Addr.add; split <;> simp_all
    rw [e, (((h.lblk h0).keep kW (by simp)).cell j)]
    simpa using hu
  have hone : ∀ u ∈ c.toList.take (nl S.n * 4), u.oneCell' = true := by
    intro u hu
    obtain ⟨j, hj, rfl⟩ := List.getElem_of_mem hu
    have hj' : j < nl S.n * 4 := by omega
    have hx : (c.toList.take (nl S.n * 4))[j]? = some (X (j / 4) (j % 4)) := by
      have := h.cells (j / 4) (by omega) (j % 4) (by omega)
      rw [show j / 4 * 4 + j % 4 = j by omega] at this
      rw [List.getElem?_take, if_pos hj']
      simpa using this
    have hval : (c.toList.take (nl S.n * 4))[j] = X (j / 4) (j % 4) := by
      have := List.getElem?_eq_getElem hj
      rw [this] at hx
      injection hx
    rw [hval]
    have ho := h.ok (j / 4) (by omega)
    obtain ⟨_, _, x0, _⟩ := ho.now
    obtain ⟨_, _, x1, _⟩ := ho.sure
    obtain ⟨_, _, _, x2⟩ := ho.va
    have x3 := ho.fl
    have hm : j % 4 = 0 ∨ j % 4 = 1 ∨ j % 4 = 2 ∨ j % 4 = 3 := by omega
    rcases hm with e | e | e | e
    · rw [e, x0]; rfl
    · rw [e, x1]; rfl
    · rw [e, x2]; rfl
    · rw [e, x3]; rfl
  generalize hNL : c.toList.take (nl S.n * 4) = NL at *
  have HNL := Lib.hid hNL
  have HNEWS := Lib.hid hnews
  have HH := Lib.hid h
  clear h hnews hA hNL hTl
  go_enter Try.func17, Try.ntmps17
  go_wp2_with (at_builtin; refine wpList_append_own_at _ rfl (.const (.slice none 0 0)) (.tmp 10) 61 rfl w.heap.size 65 i65 (.agg #[.slice none 0 0, .slice none 0 0, .slice none 0 0, .bool false]) 4 80 Try.underlying61 hi65 z65a z65b z65c rfl (by omega) (.slice none 0 0) 0 [] rfl (World.ownsRow_nil _ _ 65 4) ⟨T.l, 0, none⟩ (nl S.n) T.lc NL rfl ?c1 ?c2 ?c3 ?c4 ?c5 ?c6 ?_)
  case c1 => exact hlen
  case c2 => exact HNEWS.out _ (Keep.alloc _ _)
  case c3 => exact hone
  case c4 => simp [maxLen]; omega
  case c5 => omega
  case c6 => simp
  intro v' w2 hown hgrow _ _
  have hk2 : Keep [] (w.alloc (.cells #[.int .i64 S.n, .slice (some ⟨T.l, 0, none⟩) (nl S.n) T.lc, .int .i64 S.steps, .int .i64 fz, .bool S.off] 63)) w2 := nil_keptR hgrow rfl
  have hB2 := (Blk.new w 63 #[.int .i64 S.n, .slice (some ⟨T.l, 0, none⟩) (nl S.n) T.lc, .int .i64 S.steps, .int .i64 fz, .bool S.off]).keep hk2 (by simp)
  have hown' : w2.ownsRow w.heap.size 65 4 v' (nl S.n) NL := by simpa using hown
  obtain ⟨g, cap, rfl⟩ : ∃ g cap, v' = .slice (some ⟨g, 0, none⟩) (nl S.n) cap := by
    rcases hown'.2 with ⟨_, h⟩ | ⟨g, cap, _, e, _⟩
    · omega
    · exact ⟨g, cap, e⟩
  have q1 := (hB2.cell 1).trans rfl
  have q2 := hB2.frozen 1
  have hB3 := hB2.set_ 1 (.slice (some ⟨g, 0, none⟩) (nl S.n) cap)
  have ho3 := own4_far (q := ⟨w.heap.size, 1, none⟩) hown' (own4_ne hown' hB2 (by decide)) (.slice (some ⟨g, 0, none⟩) (nl S.n) cap)
  have hk3 : Keep [] w (w2.setCell ⟨w.heap.size, 1, none⟩ (.slice (some ⟨g, 0, none⟩) (nl S.n) cap)) := ((Keep.alloc _ _).trans hk2).into (Keep.setCell w2 ⟨w.heap.size, 1, none⟩ (own := [w.heap.size]) (by simp) _) (by simp)
  rw [← HNL.out] at ho3
  obtain ⟨T2, e1, e2, e3⟩ := copied_twin HH.out h0 hk3 hB3 ho3 (Nat.le_refl _)
  have HE := Lib.hid (And.intro e1 (And.intro e2 e3))
  clear hown hown' hgrow hB2 hB3 ho3 e1 e2 e3
  go_wp2
  go_ret
  obtain ⟨e1, e2, e3⟩ := HE.out
  exact ⟨T2, by rw [e1]; rfl, e2, e3, hk3⟩
end Go.Proofs.Ytjicfjnkammmcaa
