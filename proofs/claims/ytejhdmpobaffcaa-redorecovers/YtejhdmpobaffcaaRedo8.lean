/-
  Package redo: read. No conditions but what a device is.
-/
import Derived.Test.YtejhdmpobaffcaaRedo7
namespace Go.Proofs.Ytejhdmpobaffcaa
open Go.RowKit Go.Flo
set_option maxRecDepth 100000

theorem parts46 : (Try.prog.info? 46).map (fun i => (i.zero, i.size, i.bytes)) = some (some (.agg #[.int .i64 0, .int .u64 0]), 2, 16) := by kernel_rfl

/-- A block for m entries, the first i laid. -/
def EBlk (w : World) (G m i : Nat) (E : Nat → Ent) : Prop := ∃ cs : Array Value, Blk w G 46 cs ∧ cs.size = m * 2 ∧ ∀ j, j < i → cs[j * 2]? = some (.int .i64 (E j).a) ∧ cs[j * 2 + 1]? = some (.int .u64 (E j).v)
theorem EBlk.keep {w w' : World} {own : List Nat} {G m i : Nat} {E : Nat → Ent} (h : EBlk w G m i E) (hk : Keep own w w') (hn : G ∉ own) : EBlk w' G m i E := by
  obtain ⟨cs, h1, h2, h3⟩ := h
  exact ⟨cs, h1.keep hk hn, h2, h3⟩
theorem EBlk.lt {w : World} {G m i : Nat} {E : Nat → Ent} (h : EBlk w G m i E) : G < w.heap.size := by obtain ⟨cs, h1, _⟩ := h; exact h1.lt
theorem EBlk.frozen {w : World} {G m i : Nat} {E : Nat → Ent} (h : EBlk w G m i E) (k : Nat) : w.frozen? ⟨G, k, none⟩ = false := by obtain ⟨cs, h1, _⟩ := h; exact h1.frozen k
theorem EBlk.there {w : World} {G m i : Nat} {E : Nat → Ent} (h : EBlk w G m i E) {k : Nat} (hk : k < m) : ∃ x y, w.cell? ⟨G, k * 2, none⟩ = some x ∧ w.cell? ⟨G, k * 2 + 1, none⟩ = some y := by
  obtain ⟨cs, h1, h2, _⟩ := h
  exact ⟨_, _, (h1.cell _).trans (Array.getElem?_eq_getElem (show k * 2 < cs.size by omega)), (h1.cell _).trans (Array.getElem?_eq_getElem (show k * 2 + 1 < cs.size by omega))⟩
theorem EBlk.next {w : World} {G m i : Nat} {E : Nat → Ent} (h : EBlk w G m i E) (hi' : i < m) : EBlk ((w.setCell ⟨G, i * 2, none⟩ (.int .i64 (E i).a)).setCell ⟨G, i * 2 + 1, none⟩ (.int .u64 (E i).v)) G m (i + 1) E := by
  obtain ⟨cs, h1, h2, h3⟩ := h
  refine ⟨_, (h1.set_ (i * 2) _).set_ (i * 2 + 1) _, by simp [h2], fun j hj => ?_⟩
  by_cases hji : j = i
  · subst hji
    have a1 : j * 2 < cs.size := by omega
    have a2 : j * 2 + 1 < cs.size := by omega
    simp [a1, a2]
  · have h4 := h3 j (by omega)
    have a1 : ¬ i * 2 = j * 2 := by omega
    have a2 : ¬ i * 2 + 1 = j * 2 := by omega
    have a3 : ¬ i * 2 = j * 2 + 1 := by omega
    simp [a1, a2, a3, h4]
theorem EBlk.ents {w : World} {G m : Nat} {E : Nat → Ent} (h : EBlk w G m m E) (own : List Nat) (ho : G ∉ own) (hm : m ≤ 65536) : Ents w own (some ⟨G, 0, none⟩) m m E := by
  obtain ⟨cs, h1, h2, h3⟩ := h
  refine ⟨Nat.le_refl _, by omega, fun _ => ⟨G, 0, rfl, ho, h1.lt, fun j hj => ?_⟩⟩
  rw [Nat.zero_add, h1.cell, h1.cell]
  exact h3 j hj

/-- Are the first k entries of the log such as may be? -/
def goodB (S : St) (f t : Int) (k : Nat) : Bool := (List.range k).all fun j => okB S.n f t (logE S f j).a
theorem goodB_true {S : St} {f t : Int} {k : Nat} : goodB S f t k = true ↔ ∀ j, j < k → okB S.n f t (logE S f j).a = true := by simp [goodB]
theorem goodB_no {S : St} {f t : Int} {k j : Nat} (hj : j < k) (h : okB S.n f t (logE S f j).a = false) : goodB S f t k = false := by
  cases e : goodB S f t k
  · rfl
  · rw [goodB_true.1 e j hj] at h; cases h

def ReadBad (w : World) (x : Int) (e : Ending) (w' : World) : Prop := e = .returned (.tuple #[.slice none 0 0, .int .i64 x]) ∧ Keep [] w w'
def ReadOk (w : World) (m : Nat) (E : Nat → Ent) (e : Ending) (w' : World) : Prop := ∃ G, e = .returned (.tuple #[.slice (some ⟨G, 0, none⟩) m m, .int .i64 0]) ∧ Keep [] w w' ∧ w.heap.size ≤ G ∧ EBlk w' G m m E

def ReadPost (S : St) (f t : Int) (m : Nat) (w : World) (e : Ending) (w' : World) : Prop := if goodB S f t m = true then ReadOk w m (logE S f) e w' else ReadBad w 8 e w'
theorem ReadPost.bad {S : St} {f t : Int} {m : Nat} {w : World} {e : Ending} {w' : World} (h : goodB S f t m = false) (hb : ReadBad w 8 e w') : ReadPost S f t m w e w' := by
  unfold ReadPost
  rw [h]
  exact hb
theorem ReadPost.ok {S : St} {f t : Int} {m : Nat} {w : World} {e : Ending} {w' : World} (h : goodB S f t m = true) (hb : ReadOk w m (logE S f) e w') : ReadPost S f t m w e w' := by
  unfold ReadPost
  rw [h]
  exact hb

def RdRel (S : St) (f t : Int) (m G : Nat) (w3 : World) (x : Value) (wr : World) : Prop :=
  ∃ i : Nat, x = .int .i64 i ∧ i ≤ m ∧ (∀ j, j < i → okB S.n f t (logE S f j).a = true) ∧ EBlk wr G m i (logE S f) ∧ Keep [G] w3 wr

set_option maxHeartbeats 2000000 in
theorem read_off (w : World) (L : Loc) (S : St) (h : Dev w L S) (f t : Int) (f0 : 0 ≤ f) (f1 : f < t) (t1 : t ≤ S.n) (ho : S.off = true) :
    Calls Try.prog 53 #[.agg #[.pointer (some ⟨L.d, 0, none⟩), .int .i64 f, .int .i64 t]] w (ReadBad w 7) := by
  have k0 : Keep [] w (w.alloc (.cells #[.pointer (some ⟨L.d, 0, none⟩), .int .i64 f, .int .i64 t] 73)) := Keep.alloc _ _
  have h1 := load_there _ L S (h.keep k0 (by simp)) f f0 (by omega)
  rw [ho] at h1
  simp only [if_true] at h1
  go_enter Try.func53, Try.ntmps53
  go_wp2_with fail
  (with_reducible refine h1.mono ?_)
  rintro e w1 ⟨rfl, rfl⟩
  go_wp2
  go_ret2
  exact ⟨rfl, k0⟩

set_option maxHeartbeats 2000000 in
theorem read_many (w : World) (L : Loc) (S : St) (h : Dev w L S) (hW : Wd S) (f t : Int) (f0 : 0 ≤ f) (f1 : f < t) (t1 : t ≤ S.n) (ho : S.off = false) (hm : holdsB f t (S.now f.toNat) = false) :
    Calls Try.prog 53 #[.agg #[.pointer (some ⟨L.d, 0, none⟩), .int .i64 f, .int .i64 t]] w (ReadBad w 8) := by
  have k0 : Keep [] w (w.alloc (.cells #[.pointer (some ⟨L.d, 0, none⟩), .int .i64 f, .int .i64 t] 73)) := Keep.alloc _ _
  have hn := h.n
  have h1 := load_there _ L S (h.keep k0 (by simp)) f f0 (by omega)
  rw [ho] at h1
  simp only [Bool.false_eq_true, if_false] at h1
  have h2 := holds_any (w.alloc (.cells #[.pointer (some ⟨L.d, 0, none⟩), .int .i64 f, .int .i64 t] 73)) L f t (S.now f.toNat) (hW _).1 f0 f1 (by omega)
  rw [hm] at h2
  clear hm ho
  generalize S.now f.toNat = X at *
  go_enter Try.func53, Try.ntmps53
  go_wp2_with fail
  (with_reducible refine h1.mono ?_)
  rintro e w1 ⟨rfl, rfl⟩
  go_wp2_with fail
  (with_reducible refine h2.mono ?_)
  rintro e w2 ⟨rfl, hK⟩
  go_wp2
  go_ret2
  exact ⟨rfl, k0.trans hK⟩

set_option maxHeartbeats 8000000 in
theorem read_any (w : World) (L : Loc) (S : St) (h : Dev w L S) (hW : Wd S) (f t : Int) (f0 : 0 ≤ f) (f1 : f < t) (t1 : t ≤ S.n) (ho : S.off = false) (m : Nat) (hX : S.now f.toNat = m) (hm : holdsB f t m = true) :
    Calls Try.prog 53 #[.agg #[.pointer (some ⟨L.d, 0, none⟩), .int .i64 f, .int .i64 t]] w (ReadPost S f t m w) := by
  have k0 : Keep [] w (w.alloc (.cells #[.pointer (some ⟨L.d, 0, none⟩), .int .i64 f, .int .i64 t] 73)) := Keep.alloc _ _
  have hn := h.n
  have h1 := load_there _ L S (h.keep k0 (by simp)) f f0 (by omega)
  rw [ho, hX] at h1
  simp only [Bool.false_eq_true, if_false] at h1
  have h2 := holds_any (w.alloc (.cells #[.pointer (some ⟨L.d, 0, none⟩), .int .i64 f, .int .i64 t] 73)) L f t m (by omega) f0 f1 (by omega)
  rw [hm] at h2
  obtain ⟨m1, m2⟩ := holdsB_true hm
  obtain ⟨i46, hi46, za, zb, zc⟩ := info_parts parts46
  have hmk : ∀ W : World, (Instr.makeSlice 26 (.int .u64 (m : Int)) (.int .u64 (m : Int))).run Try.prog W = .ok (.slice (some ⟨W.heap.size, 0, none⟩) m m) (W.alloc (.cells (madeCells (Value.agg #[.int .i64 0, .int .u64 0]).cells (m * 2)) 46)) := by
    intro W
    have := run_make (P := Try.prog) W 26 46 i46 (.agg #[.int .i64 0, .int .u64 0]) Try.underlying26 hi46 za .u64 .u64 (m : Int) (m : Int) (by omega) (by omega) (by rw [zc]; omega) (by omega)
    rw [zb] at this
    simpa using this
  have hz := size_madeCells (Value.agg #[.int .i64 0, .int .u64 0]).cells (m * 2)
  have hent := fun (W : World) (hk : Keep [] w W) (i : Nat) (hi' : i < m) => entry_any W L S (h.keep hk (by simp)) hW f t f0 f1 t1 i (by omega) ho
  have hbx := fun G (hG : w.heap.size ∉ [G]) W (hk : Keep [G] (w.alloc (.cells #[.pointer (some ⟨L.d, 0, none⟩), .int .i64 f, .int .i64 t] 73)) W) => box3 (w := w) (W' := W) (own := [G]) rfl hk hG
  have HBX := Lib.hid hbx
  have HENT := Lib.hid hent
  have HZ := Lib.hid hz
  have hsz : w.heap.size < (w.alloc (.cells #[.pointer (some ⟨L.d, 0, none⟩), .int .i64 f, .int .i64 t] 73)).heap.size := by simp
  clear hbx hent hz hm ho hX h hW hi46 za zb zc
  generalize madeCells (Value.agg #[.int .i64 0, .int .u64 0]).cells (m * 2) = Z at *
  go_enter Try.func53, Try.ntmps53
  go_wp2_with fail
  generalize w.alloc (.cells #[.pointer (some ⟨L.d, 0, none⟩), .int .i64 f, .int .i64 t] 73) = wa at *
  (with_reducible refine h1.mono ?_)
  rintro e w1 ⟨rfl, rfl⟩
  obtain ⟨b0, b1, b2, b3⟩ := HBX.out (w.heap.size + 1) (by simp) wa (Keep.refl _ _)
  clear h1
  go_wp2_with fail
  (with_reducible refine h2.mono ?_)
  rintro e w2 ⟨rfl, hK2⟩
  clear h2
  go_wp2_with fail
  have hB0 : EBlk (w2.alloc (.cells Z 46)) w2.heap.size m 0 (logE S f) := ⟨Z, Blk.new w2 46 Z, HZ.out, fun j hj => by omega⟩
  have kz : Keep [] wa (w2.alloc (.cells Z 46)) := hK2.trans (Keep.alloc _ _)
  have hGa : w.heap.size < w2.heap.size := by have := hK2.size; omega
  clear hmk HZ
  generalize w2.alloc (.cells Z 46) = w3 at *
  generalize w2.heap.size = G at *
  clear hK2
  go_loopw [27] (fun x wr => RdRel S f t m G w3 x wr) (fun x _ => m - (intOf x).toNat)
  case atStart => exact ⟨0, rfl, by omega, fun j hj => by omega, hB0, Keep.refl _ _⟩
  case round =>
    obtain ⟨i, rfl, hi', hok, hEB, hK⟩ := hrel
    have HOK := Lib.hid hok
    clear hB0 hok
    have hKw : Keep [] w wr := (k0.trans kz).into hK (fun x hx => by rw [List.mem_singleton] at hx; omega)
    obtain ⟨b0, b1, b2, b3⟩ := HBX.out G (by simp; omega) wr ((kz.of_nil (own := [G])).trans hK)
    have hGl := hEB.lt
    by_cases hlt : i < m
    · have hlt' : (i : Int) < (m : Int) := by omega
      have he := HENT.out wr hKw i hlt
      cases hb : okB S.n f t (logE S f i).a
      · rw [hb] at he
        simp only [Bool.false_eq_true, if_false] at he
        have HG := Lib.hid (goodB_no hlt hb)
        clear hb
        unfold EntryPost at he
        go_wp2_with fail
        (with_reducible refine he.mono ?_)
        rintro e w4 ⟨rfl, hK4⟩
        have hEB4 := hEB.keep hK4 (by simp)
        obtain ⟨x, y, c0, c1⟩ := hEB4.there hlt
        have cz := hEB4.frozen
        clear he
        go_wp2
        go_ret2
        exact ReadPost.bad HG.out ⟨rfl, (hKw.trans hK4).into (own' := [G]) ((Keep.setCell _ _ (by simp) _).trans (Keep.setCell _ _ (by simp) _)) (fun x hx => by rw [List.mem_singleton] at hx; omega)⟩
      · rw [hb] at he
        simp only [if_true] at he
        have HB := Lib.hid hb
        clear hb
        unfold EntryPost at he
        go_wp2_with fail
        (with_reducible refine he.mono ?_)
        rintro e w4 ⟨rfl, hK4⟩
        have hEB4 := hEB.keep hK4 (by simp)
        obtain ⟨x, y, c0, c1⟩ := hEB4.there hlt
        have cz := hEB4.frozen
        have hn5 := hEB4.next hlt
        clear he
        go_wp2_with fail
        exact ⟨⟨i + 1, by go_num, by omega, fun j hj => by
          rcases Nat.lt_or_ge j i with h | h
          · exact HOK.out j h
          · rw [show j = i by omega]; exact HB.out, hn5, (hK.trans hK4.of_nil).trans ((Keep.setCell _ _ (by simp) _).trans (Keep.setCell _ _ (by simp) _))⟩, by simp [intOf]; omega⟩
    · have him : i = m := by omega
      subst him
      go_wp2
      go_ret2
      exact ReadPost.ok (goodB_true.2 HOK.out) ⟨G, rfl, hKw, by omega, hEB⟩
end Go.Proofs.Ytejhdmpobaffcaa
