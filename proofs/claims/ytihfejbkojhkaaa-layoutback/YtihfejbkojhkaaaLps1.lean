/-
  Package layout: kindWord, parseKind, parseKinds. No conditions but what is in memory.
-/
import Derived.Test.YtihfejbkojhkaaaKwd
import Derived.Test.YtihfejbkojhkaaaLcq
import Derived.BigQuiet
import Derived.Deep.QuietTactic
namespace Go.Proofs.Ytihfejbkojhkaaa
open Go.RowKit Go.Flo Go.Bit
set_option maxRecDepth 100000

theorem results_cell_tmp {P : Program} {fn : Func} {p q : Tmp} {ty : TypeId} (h : fn.results = #[.cell p ty, .tmp q]) (tmps : Array Value) (w : World) (g : Nat) (t : TypeId) (cs : Array Value) (fr : Nat × Nat) (d : TypeDesc) (v : Value)
    (hp : tmps.getD p undef = .pointer (some ⟨g, 0, none⟩)) (hq : tmps.getD q undef = v) (hg : w.heap[g]? = some (.cells cs t fr))
    (hu : P.underlying ty = some d) (hd : (match d with | .struct _ | .array _ _ => true | _ => false) = true) (hi : (P.info? ty).map (·.size) = some cs.size) :
    (results fn tmps).run P w = .ok (.tuple #[.agg cs, v]) w := by
  have hp' : tmps[p]?.getD undef = .pointer (some ⟨g, 0, none⟩) := by simpa using hp
  have hq' : tmps[q]?.getD undef = v := by simpa using hq
  simp [results, h, hp', hq', asAddr, run_loadVar_row w g t ty cs fr d hg hu hd hi]

/-- Words in memory, as numbers. -/
structure Wrd (w : World) (A : Option Addr) (n cap : Nat) (f : Nat → Nat) : Prop where
  nc : n ≤ cap
  cap : cap ≤ 9223372036854775807
  lt : ∀ j, f j < 18446744073709551616
  cells : 0 < n → ∃ b o, A = some ⟨b, o, none⟩ ∧ b < w.heap.size ∧ ∀ j, j < n → w.cell? ⟨b, o + j, none⟩ = some (.int .u64 (f j : Nat))
theorem Wrd.keep {w w' : World} {A : Option Addr} {n cap : Nat} {f : Nat → Nat} (h : Wrd w A n cap f) (hk : Keep [] w w') : Wrd w' A n cap f :=
  ⟨h.nc, h.cap, h.lt, fun h0 => by
    obtain ⟨b, o, h1, h3, h4⟩ := h.cells h0
    exact ⟨b, o, h1, Nat.lt_of_lt_of_le h3 hk.size, fun j hj => (hk.cell (p := ⟨b, _, none⟩) h3 (by simp)).trans (h4 j hj)⟩⟩
theorem Wrd.nil (w : World) : Wrd w none 0 0 (fun _ => 0) := ⟨by omega, by omega, fun _ => by decide, fun h => by omega⟩
theorem Wrd.row {w : World} {g n cap : Nat} {f : Nat → Nat} (h : Row w 51 g n cap (fun k => .int .u64 (f k : Nat))) (hf : ∀ j, f j < 18446744073709551616) : Wrd w (some ⟨g, 0, none⟩) n cap f :=
  ⟨h.cap_le, by have := h.cap_max; unfold maxLen at this; omega, hf, fun _ => ⟨g, 0, rfl, h.lt, fun j hj => by rw [Nat.zero_add]; exact h.cell hj⟩⟩

theorem int_nat (x : Nat) (hx : x < 18446744073709551616) (w : World) : Calls Try.prog 54 #[.int .i64 x] w fun e w' => e = .returned (.int .u64 x) ∧ w = w' :=
  (int_any x w).mono fun _ _ ⟨a, b⟩ => ⟨a.trans (ret_u64 (by rw [IntKind.wrap_u64]; omega)), b⟩
theorem intI (x : Int) (n : Nat) (hx : x = n) (hn : n < 18446744073709551616) (w : World) : Calls Try.prog 54 #[.int .i64 x] w fun e w' => e = .returned (.int .u64 (n : Nat)) ∧ w = w' := by
  subst hx
  exact int_nat n hn w
theorem number_nat (x : Nat) (hx : x ≤ 4096) (w : World) : Calls Try.prog 52 #[.int .u64 x] w fun e w' => e = .returned (.int .i64 x) ∧ w = w' :=
  (number_any x w).mono fun _ _ ⟨a, b⟩ => ⟨a.trans (ret_i64 (wrap64_small hx)), b⟩

def KwRel (w : World) (m : Nat) (f : Nat → Int) (x y : Value) (wr : World) : Prop := ∃ j : Nat, j ≤ m ∧ y = .int .i64 j ∧ x = .int .u64 (kwA m f j : Nat) ∧ Keep [] w wr

set_option maxHeartbeats 1000000 in
theorem kindWord_any (w : World) (A : Option Addr) (m c : Nat) (f : Nat → Int) (h : Ints w A m c f) (hm : m ≤ 15) (hf : ∀ j, j < m → Fld (f j)) :
    Calls Try.prog 55 #[.agg #[.slice A m c]] w fun e w' => e = .returned (.int .u64 (kw m f : Nat)) ∧ Keep [] w w' := by
  have hb := Blk.new w 60 #[.slice A m c]
  have k1 : Keep [] w (w.alloc (.cells #[.slice A m c] 60)) := Keep.alloc _ _
  have hI := fun W => int_nat m (by omega) W
  have hS : ∀ W, Calls Try.prog 65 #[.int .u64 0, .int .i64 0, .int .i64 4, .int .u64 (m : Nat)] W fun e w' => e = .returned (.int .u64 (m : Nat)) ∧ Dr W w' := by
    intro W
    have := set_any 0 0 4 m (by omega) (by omega) (by omega) W
    rw [set_above 0 0 4 m (by omega) (by omega), show 0 + m % 2 ^ 4 * 2 ^ 0 = m by omega] at this
    exact this
  have HI := Lib.hid (h.keep k1)
  have HF := Lib.hid hf
  have HB := Lib.hid hb
  have hnc := h.nc
  have hcc := h.cap
  clear h hf hb
  go_enter Try.func55, Try.ntmps55
  go_wp2_with fail
  (with_reducible refine (hI _).mono ?_)
  rintro e w' ⟨rfl, rfl⟩
  go_wp2_with fail
  (with_reducible refine (hS _).mono ?_)
  rintro e w2 ⟨rfl, d2⟩
  have hb2 := HB.out.keep (Keep.dr (own := []) d2) (by simp)
  have q0 := (hb2.cell 0).trans (show _ = some (Value.slice A m c) from rfl)
  clear hI hS hb2 HB
  go_wp2
  clear q0
  go_loopw [3, 14] (fun x y wr => KwRel w2 m f x y wr) (fun _ y _ => m - (intOf y).toNat)
  case atStart => exact ⟨0, by omega, rfl, rfl, Keep.refl _ _⟩
  case round =>
  obtain ⟨j, hj, rfl, rfl, hK⟩ := hrel
  by_cases hlt : j < m
  case neg =>
    obtain rfl : j = m := by omega
    go_wp2
    go_ret
    exact ⟨rfl, (k1.trans (Keep.dr (own := []) d2)).trans hK⟩
  obtain ⟨b, o, rfl, hb, hc⟩ := (HI.out.keep ((Keep.dr (own := []) d2).trans hK)).cells (by omega)
  have cj := hc j hlt
  have hfj := HF.out j hlt
  have hfj2 := hfj
  unfold Fld at hfj2
  obtain ⟨v, hv⟩ : ∃ v : Nat, f j = (v : Int) := ⟨(f j).toNat, by omega⟩
  have hset := kwA_set m f hm j (by omega) (fun i hi => HF.out i (by omega))
  have hl1 := kwA_lt64 m f hm j (by omega) (fun i hi => HF.out i (by omega))
  obtain ⟨p, hp⟩ : ∃ p, 4 + 2 * j = p := ⟨_, rfl⟩
  rw [hv, Int.toNat_natCast] at hset
  rw [hv] at cj
  have hfa := fun W => fieldAt_any j (by omega) W
  rw [hp] at hset hfa
  have hI := fun W => int_nat v (by omega) W
  have hS : ∀ W, Calls Try.prog 65 #[.int .u64 (kwA m f j : Nat), .int .i64 p, .int .i64 2, .int .u64 v] W fun e w' => e = .returned (.int .u64 (setN (kwA m f j) p 2 v : Nat)) ∧ Dr W w' := fun W => set_any (kwA m f j) p 2 v (by omega) (by omega) (by omega) W
  rw [hset] at hS
  have HN := Lib.hid (show kwA m f (j + 1) = kwA m f (j + 1) from rfl)
  generalize kwA m f j = X at *
  clear hc hset hp hfj hv hfj2
  go_wp2_with fail
  (with_reducible refine (hfa _).mono ?_)
  rintro e w' ⟨rfl, rfl⟩
  go_wp2_with fail
  (with_reducible refine (hI _).mono ?_)
  rintro e w' ⟨rfl, rfl⟩
  go_wp2_with fail
  (with_reducible refine (hS _).mono ?_)
  rintro e w4 ⟨rfl, d4⟩
  go_wp2
  go_roundw
  case rel => exact ⟨j + 1, by omega, by go_num, rfl, hK.trans (Keep.dr (own := []) d4)⟩
  case measure => simp [intOf]; omega

theorem mk_ints (n : Nat) (hn : n ≤ 1000) (W : World) : (Instr.makeSlice 58 (.int .u64 (n : Nat)) (.int .u64 (n : Nat))).run Try.prog W = .ok (.slice (some ⟨W.heap.size, 0, none⟩) n n) (W.alloc (.cells (madeCells #[.int .i64 0] n) 3)) := by
  obtain ⟨i, hi, h1, h2, h3⟩ := info_of intparts
  have := run_make (P := Try.prog) W 58 3 i (.int .i64 0) Try.underlying58 hi h1 .u64 .u64 (n : Nat) (n : Nat) (by omega) (by omega) (by rw [h3]; omega) (by omega)
  rw [h2] at this
  simpa [Value.cells] using this

/-- What parseKind tells. -/
def PkPost (x : Nat) (w : World) (e : Ending) (w' : World) : Prop :=
  ∃ g, e = .returned (.tuple #[.agg #[.slice (some ⟨g, 0, none⟩) (pm x) (pm x)], .bool (decide (Up x))]) ∧ Ints w' (some ⟨g, 0, none⟩) (pm x) (pm x) (pf x) ∧ w.heap.size ≤ g ∧ Keep [] w w'
def PkRel (w : World) (x : Nat) (y : Value) (wr : World) : Prop :=
  ∃ j : Nat, j ≤ pm x ∧ y = .int .i64 j ∧ Row wr 3 (w.heap.size + 1) (pm x) (pm x) (fun i => if i < j then iv (pf x) i else .int .i64 0) ∧ Blk wr w.heap.size 60 #[.slice none 0 0] ∧ Keep [] w wr

set_option maxHeartbeats 1000000 in
theorem parseKind_any (x : Nat) (hx : x < 18446744073709551616) (w : World) :
    Calls Try.prog 63 #[.int .u64 x] w (PkPost x w) := by
  have hm := pm_lt x
  have k1 : Keep [] w (w.alloc (.cells #[.slice none 0 0] 60)) := Keep.alloc _ _
  have hb := Blk.new w 60 #[.slice none 0 0]
  have hG : ∀ W, Calls Try.prog 67 #[.int .u64 x, .int .i64 0, .int .i64 4] W fun e w' => e = .returned (.int .u64 (pm x : Nat)) ∧ Dr W w' := by
    intro W
    have := get_any x 0 4 hx (by omega) W
    rw [show getN x 0 4 = pm x by unfold getN pm; simp] at this
    exact this
  have hmk := fun W => mk_ints (pm x) (by omega) W
  have HB := Lib.hid hb
  clear hb
  go_enter Try.func63, Try.ntmps63
  go_wp2_with fail
  (with_reducible refine (hG _).mono ?_)
  rintro e w2 ⟨rfl, d2⟩
  have hs2 : w2.heap.size = w.heap.size + 1 := by
    obtain ⟨n, rfl⟩ := d2
    simp
  have hb2 := HB.out.keep (Keep.dr (own := []) d2) (by simp)
  have k2 := k1.trans (Keep.dr (own := []) d2)
  clear hG HB d2 k1
  go_wp2
  clear hmk
  go_loopw [12] (fun y wr => PkRel w x y wr) (fun y _ => pm x - (intOf y).toNat)
  case atStart =>
    have ka : Keep [] w2 (w2.alloc (.cells (madeCells #[.int .i64 0] (pm x)) 3)) := Keep.alloc _ _
    have hr := Blk.made (v := .int .i64 0) (n := pm x) (by unfold maxLen; omega) (Blk.new w2 3 (madeCells #[.int .i64 0] (pm x)))
    rw [hs2] at hr
    exact ⟨0, by omega, rfl, hr.congr (fun i hi => by simp), hb2.keep ka (by simp), k2.trans ka⟩
  case round =>
  obtain ⟨j, hj, rfl, hrow, hB, hK⟩ := hrel
  have hrl := hrow.lt
  by_cases hlt : j < pm x
  case neg =>
    obtain rfl : j = pm x := by omega
    obtain ⟨p, hp⟩ : ∃ p, 4 + 2 * pm x = p := ⟨_, rfl⟩
    have hfa := fun W => fieldAt_any (pm x) (by omega) W
    obtain ⟨u, hu⟩ : ∃ u, getN x p (64 - p) = u := ⟨_, rfl⟩
    have hG : ∀ W, Calls Try.prog 67 #[.int .u64 x, .int .i64 p, .int .i64 (64 - (p : Int))] W fun e w' => e = .returned (.int .u64 (u : Nat)) ∧ Dr W w' := by
      intro W
      have := get_any x p (64 - p) hx (by omega) W
      rw [hu, show ((64 - p : Nat) : Int) = 64 - (p : Int) by omega] at this
      exact this
    have hup : u = 0 ↔ Up x := by rw [← hu, ← hp]; exact get_up x hx
    rw [hp] at hfa
    have hpl : p ≤ 34 := by omega
    have HI : Ints wr (some ⟨w.heap.size + 1, 0, none⟩) (pm x) (pm x) (pf x) := Ints.row (hrow.congr (fun i hi => by simp [hi]))
    have HH := Lib.hid (And.intro HI (And.intro hB hK))
    have k60 : (Try.prog.info? 60).map (·.size) = some (#[.slice (some ⟨w.heap.size + 1, 0, none⟩) (pm x) (pm x)] : Array Value).size := by kernel_rfl
    have hbool : ((u : Int) == 0) = decide (Up x) := by
      by_cases hq : Up x
      · have := hup.2 hq; subst this; simp [hq]
      · have : u ≠ 0 := fun h => hq (hup.1 h)
        simp [hq, this]
    obtain ⟨bb, hbb⟩ : ∃ bb, decide (Up x) = bb := ⟨_, rfl⟩
    rw [hbb] at hbool
    have HBB := Lib.hid hbb
    clear hp hu hrow hB hK HI hup hbb
    go_wp2_with fail
    (with_reducible refine (hfa _).mono ?_)
    rintro e w' ⟨rfl, rfl⟩
    go_wp2_with fail
    (with_reducible refine (hG _).mono ?_)
    rintro e w4 ⟨rfl, d4⟩
    have hB4 := HH.out.2.1.keep (Keep.dr (own := []) d4) (by simp)
    have y0 := (hB4.cell 0).trans (show _ = some (Value.slice none 0 0) from rfl)
    have y1 := hB4.frozen 0
    go_wp2
    (try simp only [Exit.inBlock, Exit.then])
    have hB5 : Blk (w4.setCell ⟨w.heap.size, 0, none⟩ (.slice (some ⟨w.heap.size + 1, 0, none⟩) (pm x) (pm x))) w.heap.size 60 #[.slice (some ⟨w.heap.size + 1, 0, none⟩) (pm x) (pm x)] := hB4.set_ 0 _
    refine bodyPost_ret (v := .tuple #[.agg #[.slice (some ⟨w.heap.size + 1, 0, none⟩) (pm x) (pm x)], .bool bb]) ?_ rfl ?_
    · exact results_cell_tmp rfl _ _ w.heap.size 60 #[.slice (some ⟨w.heap.size + 1, 0, none⟩) (pm x) (pm x)] (0, 0) _ _ rfl rfl hB5 Try.underlying60 rfl k60
    have ks : Keep [w.heap.size] w4 (w4.setCell ⟨w.heap.size, 0, none⟩ (.slice (some ⟨w.heap.size + 1, 0, none⟩) (pm x) (pm x))) := Keep.setCell _ _ (by simp) _
    exact ⟨w.heap.size + 1, by rw [HBB.out], (HH.out.1.keep (Keep.dr (own := []) d4)).keepO ks (fun a ea => by injection ea with ea; subst ea; simp), by omega, (HH.out.2.2.trans (Keep.dr (own := []) d4)).since ks (by simp)⟩
  obtain ⟨p, hp⟩ : ∃ p, 4 + 2 * j = p := ⟨_, rfl⟩
  have hfa := fun W => fieldAt_any j (by omega) W
  rw [hp] at hfa
  obtain ⟨u, hu⟩ : ∃ u, getN x p 2 = u := ⟨_, rfl⟩
  have hul : u < 4 := by have := getN_lt x p 2; omega
  have hG : ∀ W, Calls Try.prog 67 #[.int .u64 x, .int .i64 p, .int .i64 2] W fun e w' => e = .returned (.int .u64 (u : Nat)) ∧ Dr W w' := by
    intro W
    have := get_any x p 2 hx (by omega) W
    rw [hu] at this
    exact this
  have hN := fun W => number_nat u (by omega) W
  have HE := Lib.hid (show iv (pf x) j = .int .i64 u by unfold iv pf; rw [← hu, ← hp]; rfl)
  have HH := Lib.hid (And.intro hrow (And.intro hB hK))
  clear hp hu hrow hB hK
  go_wp2_with fail
  (with_reducible refine (hfa _).mono ?_)
  rintro e w' ⟨rfl, rfl⟩
  go_wp2_with fail
  (with_reducible refine (hG _).mono ?_)
  rintro e w4 ⟨rfl, d4⟩
  have hrow4 := HH.out.1.keep (Keep.dr (own := []) d4) (by simp)
  have y0 := hrow4.cell hlt
  have y1 := hrow4.frozen j
  rw [show (if j < j then iv (pf x) j else Value.int .i64 0) = .int .i64 0 by simp] at y0
  have HR4 := Lib.hid hrow4
  clear hrow4
  go_wp2_with fail
  (with_reducible refine (hN _).mono ?_)
  rintro e w' ⟨rfl, rfl⟩
  go_wp2
  go_roundw
  case rel =>
    have ks : Keep [w.heap.size + 1] w4 (w4.setCell ⟨w.heap.size + 1, j, none⟩ (.int .i64 u)) := Keep.setCell _ _ (by simp) _
    refine ⟨j + 1, by omega, by go_num, (HR4.out.set_ j _).congr (fun i hi => ?_), (HH.out.2.1.keep (Keep.dr (own := []) d4) (by simp)).far (p := ⟨w.heap.size + 1, j, none⟩) (by simp) _, (HH.out.2.2.trans (Keep.dr (own := []) d4)).since ks (by simp)⟩
    by_cases e : i = j
    · subst e; simp [HE.out]
    · by_cases e2 : i < j
      · simp [e, e2, Nat.lt_succ_of_lt e2]
      · have e3 : ¬ i < j + 1 := by omega
        simp [e, e2, e3]
  case measure => simp [intOf]; omega
end Go.Proofs.Ytihfejbkojhkaaa
