/-
  Package redo: entries that came in, leaves, mark. No conditions but what a device is, and that few steps are counted.
-/
import Derived.Test.YtejhdmpobaffcaaRedo1
namespace Go.Proofs.Ytejhdmpobaffcaa
open Go.RowKit Go.Flo
set_option maxRecDepth 100000

/-- A row of entries, in a block that is not among own. -/
structure Ents (w : World) (own : List Nat) (A : Option Addr) (n cap : Nat) (E : Nat → Ent) : Prop where
  nc : n ≤ cap
  cap : cap ≤ 9223372036854775807
  cells : 0 < n → ∃ b o, A = some ⟨b, o, none⟩ ∧ b ∉ own ∧ b < w.heap.size ∧ ∀ j, j < n → w.cell? ⟨b, o + j * 2, none⟩ = some (.int .i64 (E j).a) ∧ w.cell? ⟨b, o + j * 2 + 1, none⟩ = some (.int .u64 (E j).v)

/-- Entries that are numbers of their kinds. -/
def EB (E : Nat → Ent) (n : Nat) : Prop := ∀ j, j < n → -9223372036854775808 ≤ (E j).a ∧ (E j).a ≤ 9223372036854775807 ∧ 0 ≤ (E j).v ∧ (E j).v < 18446744073709551616

theorem Ents.keep {w w' : World} {own : List Nat} {A : Option Addr} {n cap : Nat} {E : Nat → Ent} (h : Ents w own A n cap E) (hk : Keep own w w') : Ents w' own A n cap E :=
  ⟨h.nc, h.cap, fun h0 => by
    obtain ⟨b, o, h1, h2, h3, h4⟩ := h.cells h0
    exact ⟨b, o, h1, h2, Nat.lt_of_lt_of_le h3 hk.size, fun j hj => ⟨(hk.cell (p := ⟨b, _, none⟩) h3 h2).trans (h4 j hj).1, (hk.cell (p := ⟨b, _, none⟩) h3 h2).trans (h4 j hj).2⟩⟩⟩
theorem Ents.weaken {w : World} {own own' : List Nat} {A : Option Addr} {n cap : Nat} {E : Nat → Ent} (h : Ents w own A n cap E) (ho : ∀ k ∈ own', k ∈ own) : Ents w own' A n cap E :=
  ⟨h.nc, h.cap, fun h0 => by
    obtain ⟨b, o, h1, h2, h3, h4⟩ := h.cells h0
    exact ⟨b, o, h1, fun hm => h2 (ho _ hm), h3, h4⟩⟩
theorem Ents.keep0 {w w' : World} {own : List Nat} {A : Option Addr} {n cap : Nat} {E : Nat → Ent} (h : Ents w own A n cap E) (hk : Keep [] w w') : Ents w' own A n cap E := h.keep hk.of_nil
theorem Ents.cong {w : World} {own : List Nat} {A : Option Addr} {n cap : Nat} {E E' : Nat → Ent} (h : Ents w own A n cap E) (he : ∀ j, j < n → E j = E' j) : Ents w own A n cap E' :=
  ⟨h.nc, h.cap, fun h0 => by
    obtain ⟨b, o, h1, h2, h3, h4⟩ := h.cells h0
    exact ⟨b, o, h1, h2, h3, fun j hj => by rw [← he j hj]; exact h4 j hj⟩⟩

/-- A box of three cells, kept. -/
theorem box3 {w W W' : World} {own : List Nat} {v0 v1 v2 : Value} {t : TypeId} (hW : W = w.alloc (.cells #[v0, v1, v2] t)) (hk : Keep own W W') (hB : w.heap.size ∉ own) :
    W'.cell? ⟨w.heap.size, 0, none⟩ = some v0 ∧ W'.cell? ⟨w.heap.size, 1, none⟩ = some v1 ∧ W'.cell? ⟨w.heap.size, 2, none⟩ = some v2 ∧ w.heap.size < W'.heap.size := by
  have h : Blk W w.heap.size t #[v0, v1, v2] := by rw [hW]; exact Blk.new w t _
  have h' := h.keep hk hB
  exact ⟨(h'.cell 0).trans rfl, (h'.cell 1).trans rfl, (h'.cell 2).trans rfl, h'.lt⟩

/-- Is there such a word that is none of the log's? (of an int) -/
def atB (n : Nat) (f t : Int) (x : Int) : Bool := okB n f t (IntKind.u64.wrap x)
def leavesB (n : Nat) (f t : Int) (E : Nat → Ent) (k : Nat) : Bool := (List.range k).all fun j => atB n f t (E j).a
theorem leavesB_true {n : Nat} {f t : Int} {E : Nat → Ent} {k : Nat} : leavesB n f t E k = true ↔ ∀ j, j < k → atB n f t (E j).a = true := by simp [leavesB]
theorem leavesB_no {n : Nat} {f t : Int} {E : Nat → Ent} {k j : Nat} (hj : j < k) (h : atB n f t (E j).a = false) : leavesB n f t E k = false := by
  cases e : leavesB n f t E k
  · rfl
  · rw [leavesB_true.1 e j hj] at h; cases h
theorem wrap_u64 (x : Int) (h0 : -9223372036854775808 ≤ x) (h1 : x ≤ 9223372036854775807) : IntKind.u64.wrap x = if 0 ≤ x then x else x + 18446744073709551616 := by
  split
  · exact IntWalk.u64_in _ (by omega)
  · simp [IntKind.wrap, IntKind.signed, IntKind.bits]; omega
theorem atB_true {n : Nat} {f t x : Int} (hn : n ≤ 65536) (h0 : -9223372036854775808 ≤ x) (h1 : x ≤ 9223372036854775807) : atB n f t x = true ↔ (0 ≤ x ∧ x < n ∧ ¬ (f ≤ x ∧ x < t)) := by
  unfold atB okB
  rw [wrap_u64 x h0 h1]
  split
  · simp; omega
  · simp; omega

def LvRel (n : Nat) (f t : Int) (E : Nat → Ent) (k : Nat) (w1 : World) (x : Value) (wr : World) : Prop := ∃ i : Nat, x = .int .i64 i ∧ i ≤ k ∧ (∀ j, j < i → atB n f t (E j).a = true) ∧ Keep [] w1 wr

set_option maxHeartbeats 2000000 in
theorem leaves_any (w : World) (L : Loc) (S : St) (h : Dev w L S) (f t : Int) (f0 : 0 ≤ f) (f1 : f < t) (t1 : t ≤ 65536) (A : Option Addr) (k cap : Nat) (E : Nat → Ent) (hE : Ents w [] A k cap E) :
    Calls Try.prog 41 #[.agg #[.pointer (some ⟨L.d, 0, none⟩), .int .i64 f, .int .i64 t], .slice A k cap] w fun e w' => e = .returned (.bool (leavesB S.n f t E k)) ∧ Keep [] w w' := by
  have k0 : Keep [] w (w.alloc (.cells #[.pointer (some ⟨L.d, 0, none⟩), .int .i64 f, .int .i64 t] 73)) := Keep.alloc _ _
  have hcap := hE.cap
  have hnc := hE.nc
  have HE := Lib.hid (hE.keep k0)
  have HD := Lib.hid (h.keep k0 (by simp))
  have hbx := fun W (hk : Keep [] (w.alloc (.cells #[.pointer (some ⟨L.d, 0, none⟩), .int .i64 f, .int .i64 t] 73)) W) => box3 (w := w) (W' := W) (own := []) rfl hk (by simp)
  have HBX := Lib.hid hbx
  clear hE h hbx
  go_enter Try.func41, Try.ntmps41
  go_wp2_with fail
  generalize w.alloc (.cells #[.pointer (some ⟨L.d, 0, none⟩), .int .i64 f, .int .i64 t] 73) = w1 at *
  go_loopw [9] (fun x wr => LvRel S.n f t E k w1 x wr) (fun x _ => k - (intOf x).toNat)
  case atStart => exact ⟨0, rfl, by omega, fun j hj => by omega, Keep.refl _ _⟩
  case round =>
    obtain ⟨i, rfl, hik, hok, hK⟩ := hrel
    have HOK := Lib.hid hok
    clear hok
    obtain ⟨b0, b1, b2, b3⟩ := HBX.out wr hK
    by_cases hlt : i < k
    · obtain ⟨b, o, rfl, _, hb, hcc⟩ := (HE.out.keep hK).cells (by omega)
      obtain ⟨c0, c1⟩ := hcc i hlt
      have hlt' : (i : Int) < (k : Int) := by omega
      have k1 : Keep [] wr ((wr.alloc (.cells #[.int .i64 (E i).a, .int .u64 (E i).v] 46))) := Keep.alloc _ _
      have hD := (HD.out.keep hK (by simp)).keep k1 (by simp)
      have hoth := other_any _ L S hD f t (IntKind.u64.wrap (E i).a) f0 f1 t1
      have hfin : okB S.n f t (IntKind.u64.wrap (E i).a) = atB S.n f t (E i).a := rfl
      rw [hfin] at hoth
      clear hcc hfin hD
      cases hat : atB S.n f t (E i).a
      · rw [hat] at hoth
        have HA := Lib.hid hat
        clear hat
        go_wp2_with fail
        (with_reducible refine hoth.mono ?_)
        rintro e w' ⟨rfl, hK2⟩
        go_wp2
        go_ret
        exact ⟨by rw [leavesB_no hlt HA.out]; rfl, ((k0.trans hK).trans k1).trans hK2⟩
      · rw [hat] at hoth
        have HA := Lib.hid hat
        clear hat
        go_wp2_with fail
        (with_reducible refine hoth.mono ?_)
        rintro e w' ⟨rfl, hK2⟩
        go_wp2_with fail
        exact ⟨⟨i + 1, by go_num, by omega, fun j hj => by
          rcases Nat.lt_or_ge j i with h | h
          · exact HOK.out j h
          · rw [show j = i by omega]; exact HA.out, (hK.trans k1).trans hK2⟩, by simp [intOf]; omega⟩
    · have hik' : i = k := by omega
      subst hik'
      go_wp2
      go_ret
      exact ⟨by rw [leavesB_true.2 HOK.out]; rfl, k0.trans hK⟩

theorem st_op (w : World) (L : Loc) (S : St) (h : Dev w L S) (x v : Int) (s0 : 0 ≤ S.steps) (s1 : S.steps < 1000000) :
    Calls Try.prog 33 #[.pointer (some ⟨L.d, 0, none⟩), .int .i64 x, .int .u64 v] w (Did L (opS S (.st x v)) w (.int .i64 (opA S (.st x v)))) := store_any w L S h x v s0 s1
theorem fl_op (w : World) (L : Loc) (S : St) (h : Dev w L S) (x : Int) (s0 : 0 ≤ S.steps) (s1 : S.steps < 1000000) :
    Calls Try.prog 35 #[.pointer (some ⟨L.d, 0, none⟩), .int .i64 x] w (Did L (opS S (.fl x)) w (.int .i64 (opA S (.fl x)))) := flush_any w L S h x s0 s1
theorem fe_op (w : World) (L : Loc) (S : St) (h : Dev w L S) (s0 : 0 ≤ S.steps) (s1 : S.steps < 1000000) :
    Calls Try.prog 37 #[.pointer (some ⟨L.d, 0, none⟩)] w (Did L (opS S .fe) w (.int .i64 (opA S .fe))) := fence_any w L S h s0 s1

set_option maxHeartbeats 2000000 in
theorem mark_any (w : World) (L : Loc) (S : St) (h : Dev w L S) (f t : Int) (v : Nat) (hv : v ≤ 65536) (s0 : 0 ≤ S.steps) (s1 : S.steps < 900000) :
    Calls Try.prog 66 #[.agg #[.pointer (some ⟨L.d, 0, none⟩), .int .i64 f, .int .i64 t], .int .i64 v] w (Did L (play S (markOps f v)).1 w (.int .i64 (play S (markOps f v)).2)) := by
  have k0 : Keep [] w (w.alloc (.cells #[.pointer (some ⟨L.d, 0, none⟩), .int .i64 f, .int .i64 t] 73)) := Keep.alloc _ _
  have hB : w.heap.size ∉ L.own := fun hm => by have := h.lt _ hm; omega
  have hbx := fun W (hk : Keep L.own (w.alloc (.cells #[.pointer (some ⟨L.d, 0, none⟩), .int .i64 f, .int .i64 t] 73)) W) => box3 (w := w) (W' := W) (own := L.own) rfl hk hB
  have HBX := Lib.hid hbx
  have ev : IntKind.u64.wrap (v : Int) = v := IntWalk.u64_in _ (by omega)
  have n1 := op_steps S (.st f v)
  have h1 := st_op _ L S (h.keep k0 (by simp)) f v s0 (by omega)
  have h2 := fun W hD => fl_op W L (opS S (.st f v)) hD f (by omega) (by omega)
  have n2 := op_steps (opS S (.st f v)) (.fl f)
  have h3 := fun W hD => fe_op W L (opS (opS S (.st f v)) (.fl f)) hD (by omega) (by omega)
  have hp : play S (markOps f v) = if opA S (.st f v) = 0 then if opA (opS S (.st f v)) (.fl f) = 0 then (opS (opS (opS S (.st f v)) (.fl f)) .fe, opA (opS (opS S (.st f v)) (.fl f)) .fe) else (opS (opS S (.st f v)) (.fl f), opA (opS S (.st f v)) (.fl f)) else (opS S (.st f v), opA S (.st f v)) := by
    simp only [markOps, play]
    congr 1
    congr 1
    split
    · rename_i h; rw [h]
    · rfl
  rw [hp]
  clear hp hbx n1 n2 h hB
  generalize opS (opS (opS S (.st f v)) (.fl f)) .fe = S3 at *
  generalize opA (opS (opS S (.st f v)) (.fl f)) .fe = a3 at *
  generalize opA (opS S (.st f v)) (.fl f) = a2 at *
  generalize opS (opS S (.st f v)) (.fl f) = S2 at *
  generalize opA S (.st f v) = a1 at *
  generalize opS S (.st f v) = S1 at *
  have H2 := Lib.hid h2
  have H3 := Lib.hid h3
  clear h2 h3
  by_cases e1 : a1 = 0
  · subst e1
    by_cases e2 : a2 = 0
    · subst e2
      simp only [if_true]
      go_enter Try.func66, Try.ntmps66
      go_wp2_with fail
      (with_reducible refine h1.mono ?_)
      rintro e w1 ⟨rfl, hD1, hK1⟩
      obtain ⟨b0, b1, b2, b3⟩ := HBX.out w1 hK1
      have h2 := H2.out w1 hD1
      clear h1
      go_wp2_with fail
      (with_reducible refine h2.mono ?_)
      rintro e w2 ⟨rfl, hD2, hK2⟩
      obtain ⟨b0, b1, b2, b3⟩ := HBX.out w2 (hK1.trans hK2)
      have h3 := H3.out w2 hD2
      clear h2
      go_wp2_with fail
      (with_reducible refine h3.mono ?_)
      rintro e w3 ⟨rfl, hD3, hK3⟩
      go_wp2
      go_ret
      exact ⟨rfl, hD3, ((k0.of_nil.trans hK1).trans hK2).trans hK3⟩
    · have d2 : (a2 != 0) = true := by simpa using e2
      simp only [if_true, if_neg e2]
      clear e2
      go_enter Try.func66, Try.ntmps66
      go_wp2_with fail
      (with_reducible refine h1.mono ?_)
      rintro e w1 ⟨rfl, hD1, hK1⟩
      obtain ⟨b0, b1, b2, b3⟩ := HBX.out w1 hK1
      have h2 := H2.out w1 hD1
      clear h1
      go_wp2_with fail
      (with_reducible refine h2.mono ?_)
      rintro e w2 ⟨rfl, hD2, hK2⟩
      go_wp2
      go_ret
      exact ⟨rfl, hD2, (k0.of_nil.trans hK1).trans hK2⟩
  · have d1 : (a1 != 0) = true := by simpa using e1
    simp only [if_neg e1]
    clear e1
    go_enter Try.func66, Try.ntmps66
    go_wp2_with fail
    (with_reducible refine h1.mono ?_)
    rintro e w1 ⟨rfl, hD1, hK1⟩
    go_wp2
    go_ret
    exact ⟨rfl, hD1, k0.of_nil.trans hK1⟩
end Go.Proofs.Ytejhdmpobaffcaa
