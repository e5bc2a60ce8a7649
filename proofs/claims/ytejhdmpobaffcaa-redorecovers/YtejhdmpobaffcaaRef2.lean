/-
  The document's own device (scullionref3): Store, Flush, Evict, Fence. No conditions but what a device is.
-/
import Derived.Test.YtejhdmpobaffcaaRef
import Derived.Test.YtejhdmpobaffcaaRow
namespace Go.Proofs.Ytejhdmpobaffcaa
open Go.RowKit Go.Flo
set_option maxRecDepth 100000

/-- One cell of one line is another. -/
def setX (X : Nat → Nat → Value) (i r : Nat) (v : Value) : Nat → Nat → Value := fun k s => if k = i ∧ s = r then v else X k s

theorem cells_set {c : Array Value} {m : Nat} {X : Nat → Nat → Value} (h : ∀ i, i < m → ∀ r, r < 4 → c[i * 4 + r]? = some (X i r)) (hs : 4 * m ≤ c.size) {i r : Nat} (hi' : i < m) (hr : r < 4) (v : Value) :
    ∀ k, k < m → ∀ s, s < 4 → (c.setIfInBounds (i * 4 + r) v)[k * 4 + s]? = some (setX X i r v k s) := by
  intro k hk s hs'
  unfold setX
  by_cases e : k = i ∧ s = r
  · obtain ⟨rfl, rfl⟩ := e
    have : k * 4 + s < c.size := by omega
    simp [this]
  · rw [if_neg e]
    have hne : ¬ i * 4 + r = k * 4 + s := by omega
    rw [Array.getElem?_setIfInBounds_ne hne]
    exact h k hk s hs'

theorem setX_far {X : Nat → Nat → Value} {i r k : Nat} {v : Value} (h : k ≠ i) : setX X i r v k = X k := by
  funext s
  unfold setX
  rw [if_neg (fun e => h e.1)]
theorem setX_here (X : Nat → Nat → Value) (i r : Nat) (v : Value) : setX X i r v i r = v := by simp [setX]
theorem setX_beside {X : Nat → Nat → Value} {i r s : Nat} {v : Value} (h : s ≠ r) : setX X i r v i s = X i s := by
  unfold setX
  rw [if_neg (fun e => h e.2)]

/-- Lines are turned; all else of the device stands. -/
theorem Twin.line {w w' : World} {T : TLoc} {D : List Nat} {S S' : St} {X X' : Nat → Nat → Value} {fz : Int} {c c' : Array Value} (h : Twin w T D S X fz c) (h0 : 0 < nl S.n) (hk : Keep [T.l] w w') (hb : Blk w' T.l 87 c') (hs : c'.size = c.size)
    (hc : ∀ i, i < nl S.n → ∀ r, r < 4 → c'[i * 4 + r]? = some (X' i r)) (e1 : S'.n = S.n) (e2 : S'.steps = S.steps) (e3 : S'.fuse = S.fuse) (e4 : S'.off = S.off)
    (hok : ∀ i, i < nl S.n → LineOk w' (T.m :: T.l :: D) (hi S.n i - lo i) (fun j => S'.now (lo i + j)) (fun j => S'.sure (lo i + j)) (fun j => S'.tk (lo i + j)) (S'.fl i) (X' i)) : Twin w' T D S' X' fz c' := by
  obtain ⟨n, now, sure, tk, fl, steps, fuse, off⟩ := S'
  dsimp only at e1 e2 e3 e4 hok
  subst e1 e2 e3 e4
  exact { h with
    blk := h.blk.keep hk (by simpa using (h.lm h0).symm)
    dlt := fun k hk' => Nat.lt_of_lt_of_le (h.dlt k hk') hk.size
    lblk := fun _ => hb
    lsz := by rw [hs]; exact h.lsz
    cells := hc
    ok := hok }

theorem Twin.keepT {w w' : World} {T : TLoc} {D : List Nat} {S : St} {X : Nat → Nat → Value} {fz : Int} {c : Array Value} (h : Twin w T D S X fz c) (hk : Keep [] w w') : Twin w' T D S X fz c := h.keep hk (by simp)

/-- What a call answers behind a step. -/
theorem ans_last (o b : Bool) : (if o then (7 : Int) else if b then 0 else 1) = ans o b := rfl

theorem Imm.new {w w' : World} {T : TLoc} {D : List Nat} {S : St} {X : Nat → Nat → Value} {fz : Int} {c : Array Value} (h : Twin w T D S X fz c) {g k cap : Nat} {f : Nat → Int} (hR : Row w' 44 g k cap (u64 f)) (hg : w.heap.size ≤ g) (h0 : 0 < nl S.n) : Imm w' (T.m :: T.l :: D) (.slice (some ⟨g, 0, none⟩) k cap) k f := by
  refine ⟨g, cap, rfl, hR, ?_⟩
  have h1 := h.blk.lt
  have h2 := (h.lblk h0).lt
  intro hm
  simp only [List.mem_cons] at hm
  rcases hm with rfl | rfl | hm
  · omega
  · omega
  · have := h.dlt g hm
    omega

/-- One line is turned. -/
theorem Twin.lineAt {w w' : World} {T : TLoc} {D : List Nat} {S S' : St} {X X' : Nat → Nat → Value} {fz : Int} {c c' : Array Value} (h : Twin w T D S X fz c) {i : Nat} (hi' : i < nl S.n) (hk : Keep [T.l] w w') (hb : Blk w' T.l 87 c') (hs : c'.size = c.size)
    (hc : ∀ i, i < nl S.n → ∀ r, r < 4 → c'[i * 4 + r]? = some (X' i r)) (e1 : S'.n = S.n) (e2 : S'.steps = S.steps) (e3 : S'.fuse = S.fuse) (e4 : S'.off = S.off)
    (hX : ∀ k, k ≠ i → X' k = X k) (hS : ∀ j, j < S.n → j / 8 ≠ i → S'.now j = S.now j ∧ S'.sure j = S.sure j ∧ S'.tk j = S.tk j) (hF : ∀ k, k ≠ i → S'.fl k = S.fl k)
    (hok : LineOk w' (T.m :: T.l :: D) (hi S.n i - lo i) (fun j => S'.now (lo i + j)) (fun j => S'.sure (lo i + j)) (fun j => S'.tk (lo i + j)) (S'.fl i) (X' i)) : Twin w' T D S' X' fz c' := by
  refine h.line (by omega) hk hb hs hc e1 e2 e3 e4 (fun k hk' => ?_)
  by_cases e : k = i
  · subst e
    exact hok
  · have ho := (h.ok k hk').keep hk (by simp)
    have hin : ∀ j, j < hi S.n k - lo k → (lo k + j) / 8 ≠ i ∧ lo k + j < S.n := by intro j hj; unfold hi lo at *; omega
    rw [hX k e, hF k e]
    exact ⟨ho.now.congr (fun j hj => ((hS _ (hin j hj).2 (hin j hj).1).1).symm), ho.sure.congr (fun j hj => ((hS _ (hin j hj).2 (hin j hj).1).2.1).symm), fun hb => (ho.at_ hb).congr (fun j hj => ((hS _ (hin j hj).2 (hin j hj).1).2.2).symm), ho.fl, ho.va⟩

theorem TwinE.own {w w' : World} {T : TLoc} (hk : Keep [T.l] w w') : Keep T.own w w' := hk.one (by simp [TLoc.own])

set_option maxHeartbeats 2000000 in
theorem rstore_any (w : World) (T : TLoc) (D : List Nat) (S : St) (h : TwinE w T D S) (x v : Int) (s0 : 0 ≤ S.steps) (s1 : S.steps < 1000000) :
    Calls Try.prog 34 #[.pointer (some ⟨T.m, 0, none⟩), .int .i64 x, .int .u64 v] w (TDid T D (storeS S x v) w (.int .i64 (ans (stepS S).off (hasB S.n x)))) := by
  obtain ⟨i0, hi0, hz0, hz1, hz2⟩ := info_parts parts28
  cases ho : S.off
  · have hst := rstep_on w T D S h s0 s1 ho
    cases hh : hasB S.n x
    · have hfin : storeS S x v = stepS S := by simp [storeS, hh]
      have HF := Lib.hid (And.intro hfin hh)
      clear hfin hh ho
      have hen := fun W => end_any W 1 (stepS S).off
      have HA : (if (stepS S).off then (7 : Int) else 1) = ans (stepS S).off false := by unfold ans; rfl
      rw [HA] at hen
      generalize ans (stepS S).off false = E at *
      clear HA
      go_enter Try.func34, Try.ntmps34
      go_wp2_with fail
      (with_reducible refine hst.mono ?_)
      rintro e w1 ⟨rfl, hT1, hK1⟩
      have h2 : Calls Try.prog 54 #[.pointer (some ⟨T.m, 0, none⟩), .int .i64 x] w1 fun e w' => e = .returned (.bool false) ∧ w1 = w' := by
        have := is_any w1 T D _ hT1 x
        have e : (stepS S).n = S.n := rfl
        rw [e, HF.out.2] at this
        exact this
      generalize (stepS S).off = OF at *
      clear hst h
      go_wp2_with fail
      (with_reducible refine h2.mono ?_)
      rintro e w' ⟨rfl, rfl⟩
      go_wp2_with fail
      (with_reducible refine (hen w1).mono ?_)
      rintro e w' ⟨rfl, rfl⟩
      go_wp2
      go_ret
      exact ⟨rfl, by rw [HF.out.1]; exact hT1, hK1⟩
    · obtain ⟨x0, x1⟩ := hasB_true hh
      obtain ⟨k, rfl⟩ := Int.eq_ofNat_of_zero_le x0
      have hk : k < S.n := by omega
      have hl : k / 8 < nl S.n := by unfold nl; omega
      have hfin : storeS S k v = putS (stepS S) k v := by simp [storeS, hh, ho]; rfl
      have HF := Lib.hid (And.intro hfin hh)
      clear hfin hh ho
      have hen := fun W => end_any W 0 (stepS S).off
      have HA : (if (stepS S).off then (7 : Int) else 0) = ans (stepS S).off true := by unfold ans; rfl
      rw [HA] at hen
      generalize ans (stepS S).off true = E at *
      clear HA
      go_enter Try.func34, Try.ntmps34
      go_wp2_with fail
      (with_reducible refine hst.mono ?_)
      rintro e w1 ⟨rfl, hT1, hK1⟩
      have h2 : Calls Try.prog 54 #[.pointer (some ⟨T.m, 0, none⟩), .int .i64 k] w1 fun e w' => e = .returned (.bool true) ∧ w1 = w' := by
        have := is_any w1 T D _ hT1 k
        have e : (stepS S).n = S.n := rfl
        rw [e, HF.out.2] at this
        exact this
      have hn2 : (stepS S).n = S.n := rfl
      generalize hS2 : stepS S = S2 at *
      rw [← hn2] at hk hl
      generalize S2.off = OF at *
      have HS2 := Lib.hid (And.intro hS2 hn2)
      clear hst h hS2 hn2
      obtain ⟨X, fz, c, hT⟩ := hT1
      have c1 := hT.c1
      have hA := hT.adr (by omega)
      rw [hA] at c1
      obtain ⟨g, cap, hX, hR, hgD⟩ := (hT.ok (k / 8) hl).now
      have cl := hT.lcell hl (show 0 < 4 by omega)
      have zl := hT.lz hl (k / 8 * 4)
      rw [hX, Nat.add_zero] at cl
      have hr : k % 8 < hi S2.n (k / 8) - lo (k / 8) := by unfold hi lo; omega
      have hb8 : hi S2.n (k / 8) - lo (k / 8) ≤ 8 := by unfold hi lo; omega
      have hcapl := hT.capl
      have y1 : (k : Int) / 8 < ((nl S2.n : Nat) : Int) := by omega
      have y2 : (k : Int) % 8 < ((hi S2.n (k / 8) - lo (k / 8) : Nat) : Int) := by omega
      have hkn : k < 65536 := by have := hT.n; omega
      have lm := hT.lm (by omega)
      have hlt1 := (hT.lblk (by omega)).lt
      have HT := Lib.hid hT
      have HX := Lib.hid hX
      have HR := Lib.hid hR
      clear hT hX hR hA
      generalize hHL : hi S2.n (k / 8) - lo (k / 8) = HL at *
      have HHL := Lib.hid hHL
      clear hHL
      go_wp2_with fail
      (with_reducible refine h2.mono ?_)
      rintro e w' ⟨rfl, rfl⟩
      go_wp2_with (at_builtin; refine wpList_append_own_at _ rfl (.const (.slice none 0 0)) (.tmp 35) 25 rfl w1.heap.size 44 i0 (.int .u64 0) 1 8 Try.underlying25 hi0 hz0 hz1 hz2 rfl (by omega) (.slice none 0 0) 0 [] rfl (World.ownsRow_nil _ _ 44 1) ⟨g, 0, none⟩ HL cap (rowR HL (fun j => S2.now (lo (k / 8) + j))) rfl ?c1 ?c2 ?c3 ?c4 ?c5 ?c6 ?_)
      case c1 => simpa using rowR_len HL (fun j => S2.now (lo (k / 8) + j))
      case c2 => exact rowR_cells HR.out
      case c3 => exact rowR_one _ _
      case c4 => simp [maxLen]; omega
      case c5 => omega
      case c6 => omega
      intro v' w2 hown hgrow _ hblk
      have hk2 : Keep [] w1 w2 := nil_keptR hgrow rfl
      have hown' : w2.ownsRow w1.heap.size 44 1 v' HL (rowR HL (fun j => S2.now (lo (k / 8) + j))) := by simpa using hown
      obtain ⟨gw, capw, rfl, hRw, hgw⟩ := rowR_row hown' (by omega)
      have hT2 := HT.out.keepT hk2
      have cl2 := hT2.lcell hl (show 0 < 4 by omega)
      have zl2 := hT2.lz hl (k / 8 * 4)
      have ck := hRw.cell hr
      have zk := hRw.frozen (k % 8)
      rw [HX.out, Nat.add_zero] at cl2
      unfold u64 at ck
      have ngl : ¬ gw = T.l := by omega
      have ngl2 : ¬ T.l = gw := by omega
      have HT2 := Lib.hid hT2
      have HRW := Lib.hid hRw
      clear hown hown' hgrow hblk hT2 hRw c1 cl zl
      have hK14 : Keep [T.l] w1 ((w2.setCell ⟨T.l, k / 8 * 4, none⟩ (.slice (some ⟨gw, 0, none⟩) HL capw)).setCell ⟨gw, k % 8, none⟩ (.int .u64 v)) :=
        (hk2.of_nil.trans (Keep.setCell w2 ⟨T.l, k / 8 * 4, none⟩ (by simp) _)).into (Keep.setCell _ ⟨gw, k % 8, none⟩ (own := [gw]) (by simp) _) (by simpa using hgw)
      have hTf : TwinE ((w2.setCell ⟨T.l, k / 8 * 4, none⟩ (.slice (some ⟨gw, 0, none⟩) HL capw)).setCell ⟨gw, k % 8, none⟩ (.int .u64 v)) T D (putS S2 k v) := by
        have hT1 := HT.out
        have hb4 := (((HT2.out.lblk (by omega)).set_ (k / 8 * 4) (.slice (some ⟨gw, 0, none⟩) HL capw)).far (p := ⟨gw, k % 8, none⟩) ngl2 (.int .u64 v))
        have hcs := cells_set hT1.cells hT1.lsz hl (show 0 < 4 by omega) (.slice (some ⟨gw, 0, none⟩) HL capw)
        rw [Nat.add_zero] at hcs
        have hR4 := (HRW.out.far (p := ⟨T.l, k / 8 * 4, none⟩) ngl (.slice (some ⟨gw, 0, none⟩) HL capw)).set_ (k % 8) (.int .u64 v)
        have ho := (hT1.ok (k / 8) hl).keep hK14 (by simp)
        have hHL := HHL.out
        refine ⟨_, fz, _, hT1.lineAt hl hK14 hb4 (by simp) hcs rfl rfl rfl rfl (fun k' hk' => setX_far hk') (fun j _ hj => ⟨?_, rfl, rfl⟩) (fun _ _ => rfl) ⟨?_, ?_, fun hb => ?_, ?_, ?_⟩⟩
        · show (if j = k then v else S2.now j) = S2.now j
          rw [if_neg (by intro e; subst e; exact hj rfl)]
        · rw [setX_here, hHL]
          refine Imm.new hT1 (hR4.congr (fun j hj => ?_)) hgw (by omega)
          unfold u64
          show (if j = k % 8 then Value.int .u64 v else .int .u64 (S2.now (lo (k / 8) + j))) = .int .u64 (if lo (k / 8) + j = k then v else S2.now (lo (k / 8) + j))
          by_cases e : j = k % 8
          · rw [if_pos e, if_pos (by unfold lo; omega)]
          · rw [if_neg e, if_neg (by unfold lo; omega)]
        · rw [setX_beside (by omega)]
          exact ho.sure
        · rw [setX_beside (by omega)]
          exact ho.at_ hb
        · rw [setX_beside (by omega)]
          exact ho.fl
        · rw [setX_beside (by omega)]
          exact ho.va
      have HTF := Lib.hid hTf
      clear hTf
      go_wp2_with fail
      generalize (w2.setCell ⟨T.l, k / 8 * 4, none⟩ (.slice (some ⟨gw, 0, none⟩) HL capw)).setCell ⟨gw, k % 8, none⟩ (.int .u64 v) = w4 at *
      (with_reducible refine (hen w4).mono ?_)
      rintro e w' ⟨rfl, rfl⟩
      go_wp2
      go_ret
      refine ⟨rfl, ?_, hK1.trans (TwinE.own hK14)⟩
      rw [HF.out.1]
      exact HTF.out
  · have hst := rstep_off w T D S h s0 s1 ho
    have hfin : storeS S x v = stepS S := by simp [storeS, ho]
    have hoff : (stepS S).off = true := by simp [stepS, ho]
    have hE : ans (stepS S).off (hasB S.n x) = 7 := by rw [hoff]; rfl
    rw [hE]
    have HF := Lib.hid hfin
    clear hfin hoff hE ho
    go_enter Try.func34, Try.ntmps34
    go_wp2_with fail
    (with_reducible refine hst.mono ?_)
    rintro e w1 ⟨rfl, hT1, hK1⟩
    go_wp2
    go_ret
    exact ⟨rfl, by rw [HF.out]; exact hT1, hK1⟩
end Go.Proofs.Ytejhdmpobaffcaa
