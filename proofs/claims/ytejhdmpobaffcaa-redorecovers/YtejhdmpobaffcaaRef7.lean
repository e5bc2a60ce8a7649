/-
  The document's own device (scullionref3): New. No conditions.
-/
import Derived.Test.YtejhdmpobaffcaaRef6
import Derived.Deep.AppendLies
import Derived.Deep.RegionLaw
namespace Go.Proofs.Ytejhdmpobaffcaa
open Go.RowKit Go.Flo
set_option maxRecDepth 100000

theorem parts65 : (Try.prog.info? 87).map (fun i => (i.zero, i.size, i.bytes)) = some (some (.agg #[.slice none 0 0, .slice none 0 0, .slice none 0 0, .bool false]), 4, 80) := by kernel_rfl

/-- The lines that are made: each of two rows of zeros, and none flushed. -/
def MadeL (w : World) (B n : Nat) (xs : List Value) (i : Nat) : Prop :=
  ∀ k, k < i → ∃ g1 g2 c1 c2, xs[k * 4]? = some (.slice (some ⟨g1, 0, none⟩) (hi n k - lo k) c1) ∧ xs[k * 4 + 1]? = some (.slice (some ⟨g2, 0, none⟩) (hi n k - lo k) c2) ∧ xs[k * 4 + 2]? = some (.slice none 0 0) ∧ xs[k * 4 + 3]? = some (.bool false) ∧
    Row w 44 g1 (hi n k - lo k) c1 (u64 fun _ => 0) ∧ Row w 44 g2 (hi n k - lo k) c2 (u64 fun _ => 0) ∧ B ≤ g1 ∧ B ≤ g2

theorem own4_ne {w : World} {B n M : Nat} {v : Value} {xs : List Value} {c : Array Value} {t : TypeId} (h : w.ownsRow B 87 4 v n xs) (hb : Blk w M t c) (ht : t ≠ 87) : some M ≠ v.ownBlock := by
  intro e
  rcases h.2 with ⟨rfl, _⟩ | ⟨g', cap', cur, rfl, _, hh, _⟩
  · simp [Value.ownBlock] at e
  · simp [Value.ownBlock] at e
    subst e
    unfold Blk at hb
    rw [hh] at hb
    injection hb with hb
    injection hb with _ h3
    exact ht h3.symm

/-- What stood when a line was appended stands. -/
theorem grown_blk {w W w' : World} {B n M : Nat} {v : Value} {xs : List Value} {c : Array Value} {t : TypeId} (h : w.ownsRow B 87 4 v n xs) (hb : Blk w M t c) (ht : t ≠ 87) (hk : Keep [] w W) (hg : W.grownBy w' v.ownBlock) : Blk w' M t c :=
  (hg.block M (Nat.lt_of_lt_of_le hb.lt hk.size) (own4_ne h hb ht)).trans ((hk.block M hb.lt (by simp)).trans hb)

theorem grown_row {w W w' : World} {B n g k cap : Nat} {v : Value} {xs : List Value} {f : Nat → Value} (h : w.ownsRow B 87 4 v n xs) (hr : Row w 44 g k cap f) (hk : Keep [] w W) (hg : W.grownBy w' v.ownBlock) : Row w' 44 g k cap f := by
  obtain ⟨c, hc, r⟩ := hr
  exact ⟨c, grown_blk (t := 44) h hc (by decide) hk hg, r⟩

theorem news4 (W : World) (v0 v1 v2 v3 : Value) (H : Nat) (hH : H = W.heap.size) : ∀ j u, [v0, v1, v2, v3][j]? = some u → (W.alloc (.cells #[v0, v1, v2, v3] 87)).cell? ((⟨H, 0, none⟩ : Addr).add j) = some u := by
  intro j u hu
  subst hH
  have e : (⟨W.heap.size, 0, none⟩ : Addr).add j = ⟨W.heap.size, j, none⟩ := by unfold Addr.add; split <;> simp_all
  rw [e, (Blk.new W 87 _).cell j]
  simpa using hu

theorem own4_far {w : World} {B n : Nat} {v : Value} {xs : List Value} {q : Addr} (h : w.ownsRow B 87 4 v n xs) (hp : some q.block ≠ v.ownBlock) (u : Value) : (w.setCell q u).ownsRow B 87 4 v n xs := by
  refine ⟨h.1, ?_⟩
  rcases h.2 with h2 | ⟨g, cap, cur, rfl, hg, hh, r⟩
  · exact .inl h2
  · exact .inr ⟨g, cap, cur, rfl, hg, (Below.heap_setCell w q u g (fun e' => hp (by simp [Value.ownBlock, e']))).trans hh, r⟩

/-- One line more. -/
theorem MadeL.next {w w' : World} {B n i : Nat} {xs : List Value} {g1 g2 c1 c2 : Nat} (h : MadeL w B n xs i) (hl : xs.length = i * 4) (hrow : ∀ g k cap f, Row w 44 g k cap f → Row w' 44 g k cap f)
    (r1 : Row w' 44 g1 (hi n i - lo i) c1 (u64 fun _ => 0)) (r2 : Row w' 44 g2 (hi n i - lo i) c2 (u64 fun _ => 0)) (b1 : B ≤ g1) (b2 : B ≤ g2) :
    MadeL w' B n (xs ++ [.slice (some ⟨g1, 0, none⟩) (hi n i - lo i) c1, .slice (some ⟨g2, 0, none⟩) (hi n i - lo i) c2, .slice none 0 0, .bool false]) (i + 1) := by
  intro k hk
  by_cases e : k = i
  · subst e
    refine ⟨g1, g2, c1, c2, ?_, ?_, ?_, ?_, r1, r2, b1, b2⟩
    · rw [List.getElem?_append_right (by omega), hl]; simp
    · rw [List.getElem?_append_right (by omega), hl, show k * 4 + 1 - k * 4 = 1 by omega]; rfl
    · rw [List.getElem?_append_right (by omega), hl, show k * 4 + 2 - k * 4 = 2 by omega]; rfl
    · rw [List.getElem?_append_right (by omega), hl, show k * 4 + 3 - k * 4 = 3 by omega]; rfl
  · obtain ⟨a1, a2, d1, d2, h1, h2, h3, h4, h5, h6, h7, h8⟩ := h k (by omega)
    refine ⟨a1, a2, d1, d2, ?_, ?_, ?_, ?_, hrow _ _ _ _ h5, hrow _ _ _ _ h6, h7, h8⟩
    · rw [List.getElem?_append_left (by omega)]; exact h1
    · rw [List.getElem?_append_left (by omega)]; exact h2
    · rw [List.getElem?_append_left (by omega)]; exact h3
    · rw [List.getElem?_append_left (by omega)]; exact h4

def RNewRel (w : World) (n M : Nat) (x : Value) (wr : World) : Prop :=
  ∃ (i : Nat) (v : Value) (xs : List Value), x = .int .i64 ((8 * i : Nat) : Int) ∧ i ≤ nl n ∧ Blk wr M 34 #[.int .i64 n, v, .int .i64 0, .int .i64 0, .bool false] ∧ wr.ownsRow w.heap.size 87 4 v i xs ∧ MadeL wr w.heap.size n xs i ∧ Keep [] w wr ∧ w.heap.size ≤ M

def RNewPost (n : Nat) (D : List Nat) (w : World) (e : Ending) (w' : World) : Prop :=
  ∃ T : TLoc, e = .returned (.pointer (some ⟨T.m, 0, none⟩)) ∧ TwinE w' T D (ofS n fun _ => 0) ∧ (∀ k ∈ T.own, w.heap.size ≤ k ∧ k < w'.heap.size) ∧ Keep [] w w'

/-- The device that New has made. -/
theorem made_twin {w wr : World} {n : Nat} {D : List Nat} {v : Value} {xs : List Value} {M : Nat} (hn : n ≤ 65536) (hD : ∀ k ∈ D, k < w.heap.size) (hB : Blk wr M 34 #[.int .i64 n, v, .int .i64 0, .int .i64 0, .bool false]) (hrow : wr.ownsRow w.heap.size 87 4 v (nl n) xs)
    (hm : MadeL wr w.heap.size n xs (nl n)) (hK : Keep [] w wr) (hM : w.heap.size ≤ M) : ∃ T : TLoc, T.m = M ∧ TwinE wr T D (ofS n fun _ => 0) ∧ (∀ k ∈ T.own, w.heap.size ≤ k ∧ k < wr.heap.size) := by
  have hMD : M ∉ D := fun hm => by have := hD M hm; omega
  have hdlt : ∀ k ∈ D, k < wr.heap.size := fun k hk => Nat.lt_of_lt_of_le (hD k hk) hK.size
  have hnl : nl n ≤ 65536 := by unfold nl; omega
  rcases hrow.2 with ⟨rfl, h0⟩ | ⟨g, cap, cur, rfl, hg, hh, hc1, hc2, hc3, hc4⟩
  · refine ⟨⟨M, M, 0, none⟩, rfl, ⟨fun _ _ => undef, 0, #[], ?_⟩, by simpa [TLoc.own] using ⟨hM, hB.lt⟩⟩
    exact { blk := by show Blk wr M 34 #[_, .slice none (nl n) 0, _, _, _]; rw [h0]; exact hB, fuse := fun _ => rfl, f0 := by omega, f1 := by omega, n := hn, capl := by show nl n ≤ 0; omega, capm := by show 0 ≤ _; omega, mD := hMD, lD := hMD, dlt := hdlt, lm := fun h => absurd h (by show ¬ 0 < nl n; omega), adr := fun h => absurd h (by show ¬ 0 < nl n; omega), lblk := fun h => absurd h (by show ¬ 0 < nl n; omega), lsz := by show 4 * nl n ≤ _; rw [h0]; simp, cells := fun i hi' => absurd hi' (by show ¬ i < nl n; omega), ok := fun i hi' => absurd hi' (by show ¬ i < nl n; omega) }
  · have hgD : g ∉ D := fun hm => by have := hD g hm; omega
    have hne : g ≠ M := by
      intro e
      subst e
      exact own4_ne hrow hB (by decide) (by simp [Value.ownBlock])
    unfold maxLen at hc2
    have hget : ∀ i r, i < nl n → r < 4 → ∀ u, xs[i * 4 + r]? = some u → cur[i * 4 + r]? = some u := by
      intro i r hi' hr u hu
      rw [← hc4, List.getElem?_take, if_pos (by omega)] at hu
      simpa using hu
    refine ⟨⟨M, g, cap, some ⟨g, 0, none⟩⟩, rfl, ⟨fun i r => (cur[i * 4 + r]?).getD undef, 0, cur, ?_⟩, ?_⟩
    · refine { blk := hB, fuse := fun _ => rfl, f0 := by omega, f1 := by omega, n := hn, capl := hc1, capm := by show cap ≤ _; omega, mD := hMD, lD := hgD, dlt := hdlt, lm := fun _ => hne, adr := fun _ => rfl, lblk := fun _ => hh, lsz := by show 4 * nl n ≤ _; omega, cells := fun i hi' r hr => ?_, ok := fun i hi' => ?_ }
      · change i < nl n at hi'
        have : i * 4 + r < cur.size := by omega
        simp [this]
      · change i < nl n at hi'
        obtain ⟨g1, g2, c1, c2, h1, h2, h3, h4, h5, h6, h7, h8⟩ := hm i hi'
        have e1 := hget i 0 hi' (by omega) _ (by rw [Nat.add_zero]; exact h1)
        have e2 := hget i 1 hi' (by omega) _ h2
        have e3 := hget i 2 hi' (by omega) _ h3
        have e4 := hget i 3 hi' (by omega) _ h4
        have far : ∀ x c, w.heap.size ≤ x → Row wr 44 x (hi n i - lo i) c (u64 fun _ => 0) → x ∉ (M :: g :: D) := by
          intro x c hx hr hm'
          obtain ⟨cc, hcc, _⟩ := hr
          simp only [List.mem_cons] at hm'
          rcases hm' with rfl | rfl | hm'
          · unfold Blk at hB
            rw [hB] at hcc
            injection hcc with hcc
            injection hcc with _ ht
            cases ht
          · rw [hh] at hcc
            injection hcc with hcc
            injection hcc with _ ht
            cases ht
          · have := hD x hm'
            omega
        dsimp only
        refine ⟨?_, ?_, fun hb => (by cases hb), ?_, ?_⟩
        · show Imm wr _ ((cur[i * 4 + 0]?).getD undef) _ _
          rw [e1]
          exact ⟨g1, c1, rfl, h5, far _ _ h7 h5⟩
        · show Imm wr _ ((cur[i * 4 + 1]?).getD undef) _ _
          rw [e2]
          exact ⟨g2, c2, rfl, h6, far _ _ h8 h6⟩
        · show (cur[i * 4 + 3]?).getD undef = _
          rw [e4]
          rfl
        · show ∃ A n c, (cur[i * 4 + 2]?).getD undef = _
          rw [e3]
          exact ⟨none, 0, 0, rfl⟩
    · simp only [TLoc.own, List.mem_cons, List.not_mem_nil, or_false]
      have hgl : g < wr.heap.size := Blk.lt (cs := cur) hh
      have hMl := hB.lt
      rintro k (rfl | rfl)
      · exact ⟨hM, hMl⟩
      · exact ⟨hg, hgl⟩

theorem row_blk_ne {w : World} {t t' : TypeId} {g n cap M : Nat} {f : Nat → Value} {c : Array Value} (h : Row w t g n cap f) (hb : Blk w M t' c) (ht : t ≠ t') : g ≠ M := by
  intro e
  subst e
  obtain ⟨cc, hcc, _⟩ := h
  unfold Blk at hb
  rw [hcc] at hb
  injection hb with hb
  injection hb with _ h3
  exact ht h3

/-- One line is appended, as one step of a region that draws its order. -/
theorem step_line {ops : Array Oper} {o : Oper} {a : Act} {w : World} {K : Act → World → Prop} {Q : Exit → Act → World → Prop} {E : Prop} (hgd : o.guard = none)
    (ho : o.op = .call { callee := .builtin .append, args := #[.tmp 30, .tmp 36], argTypes := #[32, 32] }) {wr w0 : World} {Z : Array Value} {M i HL g1 g2 H : Nat} {v : Value} {xs : List Value} {cM : Array Value}
    (HRow : wr.ownsRow w0.heap.size 87 4 v i xs) (HB : Blk wr M 34 cM) (hK : Keep [] w0 wr) (hi' : i + 1 ≤ 65536) (hs : a.eval (.tmp 30) = v) (hx : a.eval (.tmp 36) = .slice (some ⟨H, 0, none⟩) 1 1) (hH : H = wr.heap.size + 1 + 1)
    (hw : w.heap = (((wr.alloc (.cells Z 44)).alloc (.cells Z 44)).alloc (.cells #[.slice (some ⟨g1, 0, none⟩) HL HL, .slice (some ⟨g2, 0, none⟩) HL HL, .slice none 0 0, .bool false] 87)).heap) (hos : w.os = wr.os) (htp : w.tape = wr.tape) (hou : w.output = wr.output)
    (h : ∀ g cap w', w'.ownsRow w0.heap.size 87 4 (.slice (some ⟨g, 0, none⟩) (i + 1) cap) (i + 1) (xs ++ [.slice (some ⟨g1, 0, none⟩) HL HL, .slice (some ⟨g2, 0, none⟩) HL HL, .slice none 0 0, .bool false]) → Keep [] w0 w' →
      (∀ g k c f, Row ((wr.alloc (.cells Z 44)).alloc (.cells Z 44)) 44 g k c f → Row w' 44 g k c f) → Blk w' M 34 cM → K (a.put o.dst (.slice (some ⟨g, 0, none⟩) (i + 1) cap)) w') :
    if Region.wanted o (yielded ops a.tmps) = true then Oper.wp Try.prog o a w K Q else E := by
  obtain ⟨i65, hi65, z65a, z65b, z65c⟩ := info_parts parts65
  have hsz : w.heap.size = wr.heap.size + 1 + 1 + 1 := by rw [hw]; simp
  have k3 : Keep [] ((wr.alloc (.cells Z 44)).alloc (.cells Z 44)) w := by
    refine ⟨hos, htp, hou, by rw [hsz]; simp, fun k hk _ => ?_⟩
    rw [hw]
    exact Below.heap_alloc _ _ _ hk
  have kk : Keep [] wr w := ((Keep.alloc wr (.cells Z 44)).trans (Keep.alloc _ (.cells Z 44))).trans k3
  have hrow : w.ownsRow w0.heap.size 87 4 v i xs := by
    refine ⟨HRow.1, ?_⟩
    rcases HRow.2 with h2 | ⟨g, cap, cur, hv, hg, hh, r⟩
    · exact .inl h2
    · exact .inr ⟨g, cap, cur, hv, hg, (kk.block g (Array.getElem?_eq_some_iff.1 hh).1 (by simp)).trans hh, r⟩
  have hnews : ∀ j u, [Value.slice (some ⟨g1, 0, none⟩) HL HL, .slice (some ⟨g2, 0, none⟩) HL HL, .slice none 0 0, .bool false][j]? = some u → w.cell? ((⟨H, 0, none⟩ : Addr).add j) = some u := by
    intro j u hu
    have := news4 ((wr.alloc (.cells Z 44)).alloc (.cells Z 44)) _ _ _ _ H (by rw [hH]; simp) j u hu
    unfold World.cell? at this ⊢
    rw [hw]
    exact this
  have hsz0 := hK.size
  refine step_append_lies w hgd (.tmp 30) (.tmp 36) 32 ho w0.heap.size 87 i65 (.agg #[.slice none 0 0, .slice none 0 0, .slice none 0 0, .bool false]) 4 80 Try.underlying32 hi65 z65a z65b z65c rfl (by omega) v i xs hs hrow ⟨H, 0, none⟩ 1 1 _ hx rfl hnews (by intro u hu; simp at hu; rcases hu with rfl | rfl | rfl | rfl <;> rfl) (by omega) (by unfold maxLen; omega) (by omega) (by omega) _ rfl ?_
  intro g cap w' hown hgrow hg hlt
  have hKw : Keep [] w0 w' := ⟨hgrow.os.trans (hos.trans hK.os), hgrow.tape.trans (htp.trans hK.tape), hgrow.output.trans (hou.trans hK.output), by have := hgrow.size; omega, fun k hk _ => by
    rw [hgrow.block k (by omega) (fun e' => by have := (hrow.lt k e'.symm).1; omega)]
    exact (kk.block k (by omega) (by simp)).trans (hK.block k hk (by simp))⟩
  refine h g cap w' hown hKw (fun g k c f hr => ?_) (grown_blk HRow HB (by decide) kk hgrow)
  obtain ⟨c', hc', r⟩ := hr.keep k3 (by simp)
  exact ⟨c', (hgrow.block g (hr.keep k3 (by simp)).lt (own4_ne hrow (c := c') (t := 44) hc' (by decide))).trans hc', r⟩

set_option maxHeartbeats 4000000 in
theorem rnew_pos (w : World) (n : Nat) (D : List Nat) (hD : ∀ k ∈ D, k < w.heap.size) (hn0 : 0 < n) (hn1 : n < 65536) :
    Calls Try.prog 32 #[.int .i64 n] w (RNewPost n D w) := by
  obtain ⟨i28, hi28, z28a, z28b, z28c⟩ := info_parts parts28
  have h1 : (n : Int) < 65536 := by omega
  have h2 : (0 : Int) < (n : Int) := by omega
  go_enter Try.func32, Try.ntmps32
  go_wp2_with fail
  go_loopw [4] (fun x wr => RNewRel w n w.heap.size x wr) (fun x _ => n + 8 - (intOf x).toNat)
  case atStart => exact ⟨0, .slice none 0 0, [], rfl, by omega, Blk.new w 34 _, by simpa using (World.ownsRow_nil w w.heap.size 87 4).alloc _, fun k hk => absurd hk (by omega), Keep.alloc _ _, Nat.le_refl _⟩
  case round =>
    obtain ⟨i, v, xs, rfl, hi1, hB, hrow, hmade, hK2, hM⟩ := hrel
    have c0 := (hB.cell 0).trans rfl
    have c1 := (hB.cell 1).trans rfl
    have z := fun k => hB.frozen k
    have hMl : w.heap.size < wr.heap.size := hB.lt
    have hMl2 : w.heap.size < wr.heap.size + 1 := by omega
    have hMl3 : w.heap.size < wr.heap.size + 1 + 1 := by omega
    have hmx : nl n ≤ 65536 := by unfold nl; omega
    have hszK := hK2.size
    by_cases hlt : 8 * i < n
    · have hlt' : ((8 * i : Nat) : Int) < (n : Int) := by omega
      have hil : i < nl n := by unfold nl; omega
      have hb8 : hi n i - lo i ≤ 8 := by unfold hi lo; omega
      have hm1 : ∀ W : World, (Instr.makeSlice 25 (.int .i64 (hi n i - lo i : Nat)) (.int .i64 (hi n i - lo i : Nat))).run Try.prog W = .ok (.slice (some ⟨W.heap.size, 0, none⟩) (hi n i - lo i) (hi n i - lo i)) (W.alloc (.cells (madeCells (Value.int .u64 0).cells ((hi n i - lo i) * 1)) 44)) := by
        intro W
        have := run_make (P := Try.prog) W 25 44 i28 (.int .u64 0) Try.underlying25 hi28 z28a .i64 .i64 (hi n i - lo i : Nat) (hi n i - lo i : Nat) (by omega) (by omega) (by rw [z28c]; omega) (by omega)
        rw [z28b] at this
        simpa using this
      have hR : ∀ (W : World) (t : Nat), t = W.heap.size → Row (W.alloc (.cells (madeCells (Value.int .u64 0).cells ((hi n i - lo i) * 1)) 44)) 44 t (hi n i - lo i) (hi n i - lo i) (u64 fun _ => 0) := fun W t e => e ▸ Row.made W 44 (.int .u64 0) rfl _ (by unfold maxLen; omega)
      have hmin : ((hi n i - lo i : Nat) : Int) = if (8 : Int) ≤ (n : Int) - ((8 * i : Nat) : Int) then 8 else (n : Int) - ((8 * i : Nat) : Int) := by unfold hi lo; split <;> omega
      generalize madeCells (Value.int .u64 0).cells ((hi n i - lo i) * 1) = Z at *
      generalize hJ : ((8 * i : Nat) : Int) = J at *
      have HJ := Lib.hid hJ
      have HRow := Lib.hid hrow
      have HMade := Lib.hid hmade
      have HBk := Lib.hid hB
      have HR := Lib.hid hR
      have hJ0 : 0 ≤ J := by omega
      have hJ1 : J ≤ 65536 := by omega
      have HXL := Lib.hid hrow.1
      clear hJ hrow hmade hB hR
      have hr1 : Row ((wr.alloc (.cells Z 44)).alloc (.cells Z 44)) 44 wr.heap.size (hi n i - lo i) (hi n i - lo i) (u64 fun _ => 0) := (HR.out wr _ rfl).keep (own := []) (Keep.alloc _ _) (by simp)
      have hr2 : Row ((wr.alloc (.cells Z 44)).alloc (.cells Z 44)) 44 (wr.heap.size + 1) (hi n i - lo i) (hi n i - lo i) (u64 fun _ => 0) := HR.out (wr.alloc (.cells Z 44)) _ (by simp)
      have hro : ∀ g k c f, Row wr 44 g k c f → Row ((wr.alloc (.cells Z 44)).alloc (.cells Z 44)) 44 g k c f := fun g k c f h => (h.keep (own := []) (Keep.alloc _ _) (by simp)).keep (own := []) (Keep.alloc _ _) (by simp)
      have HR1 := Lib.hid hr1
      have HR2 := Lib.hid hr2
      have HRO := Lib.hid hro
      clear hr1 hr2 hro
      by_cases hfull : (8 : Int) ≤ (n : Int) - J
      · rw [if_pos hfull] at hmin
        rw [hmin] at hm1
        have hHI : (hi n i - lo i : Nat) = 8 := by omega
        rw [hHI] at hm1
        have HHI := Lib.hid hHI
        clear hmin hHI
        go_wp2_with fail
        go_region_law ((refine step_line rfl rfl HRow.out HBk.out hK2 (by omega) rfl rfl rfl rfl rfl rfl rfl ?_; intro g cap w' hown hKw hrw hBw; have q1 := (Blk.cell hBw 1).trans rfl; have q2 := Blk.frozen hBw 1))
        all_goals
          go_wp2_with fail
          have hJJ := HJ.out
          have hHI := HHI.out
          have HB2 := hBw.set_ 1 (.slice (some ⟨g, 0, none⟩) (i + 1) cap)
          have hks : Keep [] w (w'.setCell ⟨w.heap.size, 1, none⟩ (.slice (some ⟨g, 0, none⟩) (i + 1) cap)) := hKw.into (Keep.setCell w' ⟨w.heap.size, 1, none⟩ (own := [w.heap.size]) (by simp) _) (by simp)
          have ho2 := own4_far (q := ⟨w.heap.size, 1, none⟩) hown (own4_ne hown hBw (by decide)) (.slice (some ⟨g, 0, none⟩) (i + 1) cap)
          have hrf : ∀ g' k c f, Row w' 44 g' k c f → Row (w'.setCell ⟨w.heap.size, 1, none⟩ (.slice (some ⟨g, 0, none⟩) (i + 1) cap)) 44 g' k c f := fun g' k c f h => h.far (row_blk_ne h hBw (by decide)) _
          first
          | exact ⟨⟨i + 1, _, _, by rw [← hJJ]; go_num, by omega, HB2, ho2, by
              have := HMade.out.next (g1 := wr.heap.size) (g2 := wr.heap.size + 1) HXL.out (fun g' k c f h => hrf _ _ _ _ (hrw _ _ _ _ (HRO.out _ _ _ _ h))) (hrf _ _ _ _ (hrw _ _ _ _ HR1.out)) (hrf _ _ _ _ (hrw _ _ _ _ HR2.out)) (by omega) (by omega)
              rw [hHI] at this
              exact this, hks, Nat.le_refl _⟩, by rw [← hJJ]; simp [intOf]; omega⟩
          | exact ⟨⟨i + 1, _, _, by rw [← hJJ]; go_num, by omega, HB2, ho2, by
              have := HMade.out.next (g1 := wr.heap.size + 1) (g2 := wr.heap.size) HXL.out (fun g' k c f h => hrf _ _ _ _ (hrw _ _ _ _ (HRO.out _ _ _ _ h))) (hrf _ _ _ _ (hrw _ _ _ _ HR2.out)) (hrf _ _ _ _ (hrw _ _ _ _ HR1.out)) (by omega) (by omega)
              rw [hHI] at this
              exact this, hks, Nat.le_refl _⟩, by rw [← hJJ]; simp [intOf]; omega⟩
      · rw [if_neg hfull] at hmin
        rw [hmin] at hm1
        generalize hHL : hi n i - lo i = HL at hm1
        have HHI := Lib.hid hHL
        clear hmin hHL
        go_wp2_with fail
        go_region_law ((refine step_line rfl rfl HRow.out HBk.out hK2 (by omega) rfl rfl rfl rfl rfl rfl rfl ?_; intro g cap w' hown hKw hrw hBw; have q1 := (Blk.cell hBw 1).trans rfl; have q2 := Blk.frozen hBw 1))
        all_goals
          go_wp2_with fail
          have hJJ := HJ.out
          have hHI := HHI.out
          have HB2 := hBw.set_ 1 (.slice (some ⟨g, 0, none⟩) (i + 1) cap)
          have hks : Keep [] w (w'.setCell ⟨w.heap.size, 1, none⟩ (.slice (some ⟨g, 0, none⟩) (i + 1) cap)) := hKw.into (Keep.setCell w' ⟨w.heap.size, 1, none⟩ (own := [w.heap.size]) (by simp) _) (by simp)
          have ho2 := own4_far (q := ⟨w.heap.size, 1, none⟩) hown (own4_ne hown hBw (by decide)) (.slice (some ⟨g, 0, none⟩) (i + 1) cap)
          have hrf : ∀ g' k c f, Row w' 44 g' k c f → Row (w'.setCell ⟨w.heap.size, 1, none⟩ (.slice (some ⟨g, 0, none⟩) (i + 1) cap)) 44 g' k c f := fun g' k c f h => h.far (row_blk_ne h hBw (by decide)) _
          first
          | exact ⟨⟨i + 1, _, _, by rw [← hJJ]; go_num, by omega, HB2, ho2, by
              have := HMade.out.next (g1 := wr.heap.size) (g2 := wr.heap.size + 1) HXL.out (fun g' k c f h => hrf _ _ _ _ (hrw _ _ _ _ (HRO.out _ _ _ _ h))) (hrf _ _ _ _ (hrw _ _ _ _ HR1.out)) (hrf _ _ _ _ (hrw _ _ _ _ HR2.out)) (by omega) (by omega)
              rw [hHI] at this
              exact this, hks, Nat.le_refl _⟩, by rw [← hJJ]; simp [intOf]; omega⟩
          | exact ⟨⟨i + 1, _, _, by rw [← hJJ]; go_num, by omega, HB2, ho2, by
              have := HMade.out.next (g1 := wr.heap.size + 1) (g2 := wr.heap.size) HXL.out (fun g' k c f h => hrf _ _ _ _ (hrw _ _ _ _ (HRO.out _ _ _ _ h))) (hrf _ _ _ _ (hrw _ _ _ _ HR2.out)) (hrf _ _ _ _ (hrw _ _ _ _ HR1.out)) (by omega) (by omega)
              rw [hHI] at this
              exact this, hks, Nat.le_refl _⟩, by rw [← hJJ]; simp [intOf]; omega⟩
    · have hlt' : ¬ ((8 * i : Nat) : Int) < (n : Int) := by omega
      obtain rfl : i = nl n := by unfold nl at hi1 ⊢; omega
      obtain ⟨T, e1, e2, e3⟩ := made_twin (by omega) hD hB hrow hmade hK2 hM
      generalize ((8 * nl n : Nat) : Int) = J at *
      clear hB hrow hmade
      go_wp2
      go_ret
      exact ⟨T, by rw [e1]; rfl, e2, e3, hK2⟩
end Go.Proofs.Ytejhdmpobaffcaa
