/-
  layout.copied: a config with kinds of its own. No conditions but what is in memory.
-/
import Derived.Test.YtfihaaciaobolaaLcp
namespace Go.Proofs.Ytfihaaciaobolaa
open Go.RowKit Go.Flo Go.Bit
set_option maxRecDepth 100000

theorem gen_world {P : Program} {c : Code} {Q : Exit → Act → World → Prop} {a : Act} {W : World} {R : World → Prop} (hR : R W) (h : ∀ W', R W' → c.wp P Q a W') : c.wp P Q a W := h W hR

theorem three (w : World) (X Y Z : Array Value) (t1 t2 t3 : TypeId) :
    Blk (((w.alloc (.cells X t1)).alloc (.cells Y t2)).alloc (.cells Z t3)) (w.heap.size + 2) t3 Z ∧ Blk (((w.alloc (.cells X t1)).alloc (.cells Y t2)).alloc (.cells Z t3)) (w.heap.size + 1) t2 Y ∧ Blk (((w.alloc (.cells X t1)).alloc (.cells Y t2)).alloc (.cells Z t3)) w.heap.size t1 X ∧ Keep [] w (((w.alloc (.cells X t1)).alloc (.cells Y t2)).alloc (.cells Z t3)) := by
  have k1 : Keep [] w (w.alloc (.cells X t1)) := Keep.alloc _ _
  have k2 : Keep [] (w.alloc (.cells X t1)) ((w.alloc (.cells X t1)).alloc (.cells Y t2)) := Keep.alloc _ _
  have k3 : Keep [] ((w.alloc (.cells X t1)).alloc (.cells Y t2)) (((w.alloc (.cells X t1)).alloc (.cells Y t2)).alloc (.cells Z t3)) := Keep.alloc _ _
  have b1 := Blk.new w t1 X
  have b2 := Blk.new (w.alloc (.cells X t1)) t2 Y
  have b3 := Blk.new ((w.alloc (.cells X t1)).alloc (.cells Y t2)) t3 Z
  have e1 : (w.alloc (.cells X t1)).heap.size = w.heap.size + 1 := by simp
  have e2 : ((w.alloc (.cells X t1)).alloc (.cells Y t2)).heap.size = w.heap.size + 2 := by simp
  rw [e1] at b2
  rw [e2] at b3
  exact ⟨b3, b2.keep k3 (by simp), (b1.keep k2 (by simp)).keep k3 (by simp), (k1.trans k2).trans k3⟩

theorem mk_kinds (n : Nat) (hn : n ≤ 1000) (W : World) : (Instr.makeSlice 25 (.int .i64 (n : Nat)) (.int .i64 (n : Nat))).run Try.prog W = .ok (.slice (some ⟨W.heap.size, 0, none⟩) n n) (W.alloc (.cells (madeCells #[.slice none 0 0] n) 71)) := by
  obtain ⟨i, hi, h1, h2, h3⟩ := info_of kindparts
  have := run_make (P := Try.prog) W 25 71 i (.agg #[.slice none 0 0]) Try.underlying25 hi h1 .i64 .i64 (n : Nat) (n : Nat) (by omega) (by omega) (by rw [h3]; omega) (by omega)
  rw [h2] at this
  simpa [Value.cells] using this

theorem Blk.made {W : World} {g : Nat} {t : TypeId} {v : Value} {n : Nat} (hn : n ≤ maxLen) (h : Blk W g t (madeCells #[v] n)) : Row W t g n n (fun _ => v) := by
  refine ⟨_, h, by rw [size_madeCells], Nat.le_refl _, hn, fun i hi => ?_⟩
  simp [madeCells, hi, Nat.mod_one]

/-- Kinds in memory, in blocks from B on. -/
structure KNew (B : Nat) (w : World) (A : Option Addr) (n cap : Nat) (m : Nat → Nat) (f : Nat → Nat → Int) : Prop where
  nc : n ≤ cap
  cells : 0 < n → ∃ b o, A = some ⟨b, o, none⟩ ∧ B ≤ b ∧ b < w.heap.size ∧ ∀ i, i < n → ∃ A' c', w.cell? ⟨b, o + i, none⟩ = some (.slice A' (m i) c') ∧ Ints w A' (m i) c' (f i) ∧ ∀ a, A' = some a → B ≤ a.block
  cap : cap ≤ 9223372036854775807

theorem KNew.krow {B : Nat} {w : World} {A : Option Addr} {n cap : Nat} {m : Nat → Nat} {f : Nat → Nat → Int} (h : KNew B w A n cap m f) : KRow w A n cap m f :=
  ⟨h.nc, h.cap, fun h0 => by
    obtain ⟨b, o, h1, _, h3, h4⟩ := h.cells h0
    exact ⟨b, o, h1, h3, fun i hi => by obtain ⟨A', c', e1, e2, _⟩ := h4 i hi; exact ⟨A', c', e1, e2⟩⟩⟩

theorem KNew.keepO {own : List Nat} {B : Nat} {w w' : World} {A : Option Addr} {n cap : Nat} {m : Nat → Nat} {f : Nat → Nat → Int} (h : KNew B w A n cap m f) (hk : Keep own w w') (hn : ∀ k, B ≤ k → k ∉ own) : KNew B w' A n cap m f :=
  ⟨h.nc, fun h0 => by
    obtain ⟨b, o, h1, h2, h3, h4⟩ := h.cells h0
    refine ⟨b, o, h1, h2, Nat.lt_of_lt_of_le h3 hk.size, fun i hi => ?_⟩
    obtain ⟨A', c', e1, e2, e3⟩ := h4 i hi
    exact ⟨A', c', (hk.cell (p := ⟨b, _, none⟩) h3 (hn b h2)).trans e1, e2.keepO hk (fun a ea => hn _ (e3 a ea)), e3⟩, h.cap⟩

/-- A config that was not there, with kinds of its own. -/
def NewCfg (n : Nat) (m : Nat → Nat) (f : Nat → Nat → Int) (b0 b1 b2 b3 r wk lg : Int) (w : World) (e : Ending) (w' : World) : Prop :=
  ∃ A cap, e = .returned (.agg #[.slice A n cap, .int .i64 b0, .int .i64 b1, .int .i64 b2, .int .i64 b3, .int .i64 r, .int .i64 wk, .int .i64 lg]) ∧ KNew w.heap.size w' A n cap m f ∧ Keep [] w w'

/-- The first j kinds are copied. -/
def CpRel (w : World) (A : Option Addr) (n cap : Nat) (m : Nat → Nat) (f : Nat → Nat → Int) (b0 b1 b2 b3 r wk lg : Int) (x : Value) (wr : World) : Prop :=
  ∃ (j : Nat) (cs : Nat → Option Addr × Nat), j ≤ n ∧ x = .int .i64 j ∧ Row wr 71 (w.heap.size + 2) n n (fun i => if i < j then .slice (cs i).1 (m i) (cs i).2 else .slice none 0 0) ∧
    (∀ i, i < j → Ints wr (cs i).1 (m i) (cs i).2 (f i) ∧ ∀ a, (cs i).1 = some a → w.heap.size + 2 < a.block) ∧
    Blk wr (w.heap.size + 1) 27 #[.slice none 0 0, .int .i64 0, .int .i64 0, .int .i64 0, .int .i64 0, .int .i64 0, .int .i64 0, .int .i64 0] ∧ Blk wr w.heap.size 27 #[.slice A n cap, .int .i64 b0, .int .i64 b1, .int .i64 b2, .int .i64 b3, .int .i64 r, .int .i64 wk, .int .i64 lg] ∧ Keep [] w wr

set_option maxHeartbeats 1000000 in
theorem copied_any (w : World) (A : Option Addr) (n cap : Nat) (m : Nat → Nat) (f : Nat → Nat → Int) (b0 b1 b2 b3 r wk lg : Int) (hn : n ≤ 1000) (hm : ∀ i, i < n → m i ≤ 1000) (h : KRow w A n cap m f) :
    Calls Try.prog 39 #[.agg #[.slice A n cap, .int .i64 b0, .int .i64 b1, .int .i64 b2, .int .i64 b3, .int .i64 r, .int .i64 wk, .int .i64 lg]] w (NewCfg n m f b0 b1 b2 b3 r wk lg w) := by
  have hmk := fun W => mk_kinds n hn W
  have HI := Lib.hid h
  have HM := Lib.hid hm
  clear h hm
  have k25 : (Try.prog.info? 27).map (·.size) = some (#[.slice (some ⟨w.heap.size + 2, 0, none⟩) n n, .int .i64 b0, .int .i64 b1, .int .i64 b2, .int .i64 b3, .int .i64 r, .int .i64 wk, .int .i64 lg] : Array Value).size := by kernel_rfl
  have h1c : (#[.slice (some ⟨w.heap.size + 2, 0, none⟩) n n, .int .i64 b0, .int .i64 b1, .int .i64 b2, .int .i64 b3, .int .i64 r, .int .i64 wk, .int .i64 lg] : Array Value).all (·.oneCell') = true := by first | kernel_rfl | simp [Value.oneCell']
  go_enter Try.func39, Try.ntmps39
  go_wp2
  clear hmk
  go_loopw [13] (fun x wr => CpRel w A n cap m f b0 b1 b2 b3 r wk lg x wr) (fun x _ => n - (intOf x).toNat)
  case atStart =>
    obtain ⟨h1, h2, h3, h4⟩ := three w #[.slice A n cap, .int .i64 b0, .int .i64 b1, .int .i64 b2, .int .i64 b3, .int .i64 r, .int .i64 wk, .int .i64 lg] #[.slice none 0 0, .int .i64 0, .int .i64 0, .int .i64 0, .int .i64 0, .int .i64 0, .int .i64 0, .int .i64 0] (madeCells #[.slice none 0 0] n) 27 27 71
    exact ⟨0, fun _ => (none, 0), by omega, rfl, (Blk.made (by unfold maxLen; omega) h1).congr (fun i hi => by simp), fun i hi => by omega, h2, h3, h4⟩
  case round =>
    obtain ⟨j, cs, hj, rfl, hrow, hok, hR, hB, hK⟩ := hrel
    by_cases hlt : j < n
    · obtain ⟨b, o, rfl, hb, hc⟩ := (HI.out.keep hK).cells (by omega)
      obtain ⟨A', c', cj, hI⟩ := hc j hlt
      clear hc
      have hmj := HM.out j hlt
      have k2 : Keep [] wr (wr.alloc (.cells #[.slice A' (m j) c'] 71)) := Keep.alloc _ _
      have hk := clone_ints (wr.alloc (.cells #[.slice A' (m j) c'] 71)) A' (m j) c' (f j) hmj (hI.keep k2)
      have hsz := hrow.lt
      have HH := Lib.hid (And.intro hrow (And.intro hok (And.intro hR (And.intro hB hK))))
      clear hI hrow hok hR hB hK
      go_wp2_with fail
      (with_reducible refine hk.mono ?_)
      rintro e w3 ⟨A2, c2, rfl, hI2, hnew, k3⟩
      have hKK := k2.trans k3
      have hrow3 := HH.out.1.keep hKK (by simp)
      have y0 := hrow3.cell hlt
      have y1 := hrow3.frozen j
      have hjj : (if j < j then Value.slice (cs j).1 (m j) (cs j).2 else .slice none 0 0) = .slice none 0 0 := by simp
      rw [hjj] at y0
      have HR3 := Lib.hid hrow3
      clear hrow3 hjj
      go_wp2
      go_roundw
      case rel =>
        obtain ⟨_, hok, hR, hB, hK⟩ := HH.out
        have ks : Keep [w.heap.size + 2] w3 (w3.setCell ⟨w.heap.size + 2, j, none⟩ (.slice A2 (m j) c2)) := Keep.setCell _ _ (by simp) _
        have hs2 : w.heap.size + 2 < (wr.alloc (.cells #[.slice A' (m j) c'] 71)).heap.size := by simp; omega
        refine ⟨j + 1, fun i => if i = j then (A2, c2) else cs i, by omega, by go_num, (HR3.out.set_ j _).congr (fun i hi => ?_), fun i hi => ?_, (hR.keep hKK (by simp)).far (p := ⟨w.heap.size + 2, j, none⟩) (by show _ ≠ w.heap.size + 2; omega) _, (hB.keep hKK (by simp)).far (p := ⟨w.heap.size + 2, j, none⟩) (by show _ ≠ w.heap.size + 2; omega) _, (hK.trans hKK).since ks (by simp)⟩
        · by_cases e : i = j
          · subst e; simp
          · by_cases e2 : i < j
            · simp [e, e2, Nat.lt_succ_of_lt e2]
            · have e3 : ¬ i < j + 1 := by omega
              simp [e, e2, e3]
        · by_cases e : i = j
          · subst e
            simp only [if_true]
            exact ⟨hI2.keepO ks (fun a ea => by have := hnew a ea; simp; omega), fun a ea => by have := hnew a ea; omega⟩
          · simp only [e, if_false]
            obtain ⟨g1, g2⟩ := hok i (by omega)
            exact ⟨(g1.keep hKK).keepO ks (fun a ea => by have := g2 a ea; simp; omega), g2⟩
      case measure => simp [intOf]; omega
    · obtain rfl : j = n := by omega
      have hB' : Blk (wr.setCell ⟨w.heap.size, 0, none⟩ (.slice (some ⟨w.heap.size + 2, 0, none⟩) j j)) w.heap.size 27 #[.slice (some ⟨w.heap.size + 2, 0, none⟩) j j, .int .i64 b0, .int .i64 b1, .int .i64 b2, .int .i64 b3, .int .i64 r, .int .i64 wk, .int .i64 lg] := hB.set_ 0 _
      have hR' : Blk (wr.setCell ⟨w.heap.size, 0, none⟩ (.slice (some ⟨w.heap.size + 2, 0, none⟩) j j)) (w.heap.size + 1) 27 #[.slice none 0 0, .int .i64 0, .int .i64 0, .int .i64 0, .int .i64 0, .int .i64 0, .int .i64 0, .int .i64 0] := hR.far (by simp) _
      have y0 := (hB.cell 0).trans (show _ = some (Value.slice A j cap) from rfl)
      have y1 := hB.frozen 0
      have hfin : ∀ W, W = (wr.setCell ⟨w.heap.size, 0, none⟩ (.slice (some ⟨w.heap.size + 2, 0, none⟩) j j)).setRow (w.heap.size + 1) #[.slice (some ⟨w.heap.size + 2, 0, none⟩) j j, .int .i64 b0, .int .i64 b1, .int .i64 b2, .int .i64 b3, .int .i64 r, .int .i64 wk, .int .i64 lg] → KNew w.heap.size W (some ⟨w.heap.size + 2, 0, none⟩) j j m f ∧ Keep [] w W := by
        rintro _ rfl
        have ks : Keep [w.heap.size, w.heap.size + 1] wr ((wr.setCell ⟨w.heap.size, 0, none⟩ (.slice (some ⟨w.heap.size + 2, 0, none⟩) j j)).setRow (w.heap.size + 1) #[.slice (some ⟨w.heap.size + 2, 0, none⟩) j j, .int .i64 b0, .int .i64 b1, .int .i64 b2, .int .i64 b3, .int .i64 r, .int .i64 wk, .int .i64 lg]) := (Keep.setCell _ _ (by simp) _).trans (Keep.setRow _ _ (by simp) _)
        refine ⟨⟨Nat.le_refl _, fun _ => ⟨w.heap.size + 2, 0, rfl, by omega, Nat.lt_of_lt_of_le hrow.lt ks.size, fun i hi => ?_⟩, by omega⟩, hK.since ks (by simp)⟩
        have e := (hrow.keep ks (by simp)).cell hi
        simp only [hi, if_true] at e
        rw [Nat.zero_add]
        exact ⟨_, _, e, (hok i hi).1.keepO ks (fun a ea => by have := (hok i hi).2 a ea; simp; omega), fun a ea => by have := (hok i hi).2 a ea; omega⟩
      have HF := Lib.hid hfin
      clear hfin hrow hok hB hR hK
      go_wp2_with (first | (refine wpList_load_row rfl 27 (.tmp 1) rfl w.heap.size rfl 27 #[.slice (some ⟨w.heap.size + 2, 0, none⟩) j j, .int .i64 b0, .int .i64 b1, .int .i64 b2, .int .i64 b3, .int .i64 r, .int .i64 wk, .int .i64 lg] (0, 0) _ hB' Try.underlying27 rfl k25 ?_) | (refine wpList_store_row rfl 27 (.tmp 2) (.tmp 28) rfl (w.heap.size + 1) #[.slice (some ⟨w.heap.size + 2, 0, none⟩) j j, .int .i64 b0, .int .i64 b1, .int .i64 b2, .int .i64 b3, .int .i64 r, .int .i64 wk, .int .i64 lg] rfl rfl 27 #[.slice none 0 0, .int .i64 0, .int .i64 0, .int .i64 0, .int .i64 0, .int .i64 0, .int .i64 0, .int .i64 0] hR' k25 rfl h1c ?_))
      (try simp only [Exit.inBlock, Exit.then])
      refine bodyPost_ret (v := .agg #[.slice (some ⟨w.heap.size + 2, 0, none⟩) j j, .int .i64 b0, .int .i64 b1, .int .i64 b2, .int .i64 b3, .int .i64 r, .int .i64 wk, .int .i64 lg]) ?_ rfl ?_
      · exact results_cell_row rfl _ _ (w.heap.size + 1) 27 #[.slice (some ⟨w.heap.size + 2, 0, none⟩) j j, .int .i64 b0, .int .i64 b1, .int .i64 b2, .int .i64 b3, .int .i64 r, .int .i64 wk, .int .i64 lg] (0, 0) _ rfl (setRow_heap _ _ _ _ _ _ hR') Try.underlying27 rfl k25
      · have := HF.out _ rfl
        exact ⟨_, j, rfl, this.1, this.2⟩
end Go.Proofs.Ytfihaaciaobolaa
