/-
  scullionlaw4's laid: words on a device and on the document's, sure. No conditions but that there are few words.
-/
import Derived.Test.YtejhdmpobaffcaaRedo7
import Derived.Test.YtejhdmpobaffcaaRef7
namespace Go.Proofs.Ytejhdmpobaffcaa
open Go.RowKit Go.Flo
set_option maxRecDepth 100000

set_option maxHeartbeats 4000000 in
theorem rnew_zero (w : World) (x : Int) (D : List Nat) (hD : ∀ k ∈ D, k < w.heap.size) (hx : x ≤ 0) :
    Calls Try.prog 32 #[.int .i64 x] w (RNewPost 0 D w) := by
  have hB : Blk (w.alloc (.cells #[.int .i64 0, .slice none 0 0, .int .i64 0, .int .i64 0, .bool false] 34)) w.heap.size 34 #[.int .i64 (0 : Nat), .slice none 0 0, .int .i64 0, .int .i64 0, .bool false] := Blk.new w 34 _
  have c0 : (w.alloc (.cells #[.int .i64 0, .slice none 0 0, .int .i64 0, .int .i64 0, .bool false] 34)).cell? ⟨w.heap.size, 0, none⟩ = some (.int .i64 0) := (hB.cell 0).trans rfl
  obtain ⟨T, e1, e2, e3⟩ := made_twin (n := 0) (D := D) (xs := []) (w := w) (by omega) hD hB ((World.ownsRow_nil w w.heap.size 87 4).alloc _) (fun k hk => absurd hk (by simp [nl])) (Keep.alloc _ _) (Nat.le_refl _)
  have hk : Keep [] w (w.alloc (.cells #[.int .i64 0, .slice none 0 0, .int .i64 0, .int .i64 0, .bool false] 34)) := Keep.alloc _ _
  clear hB
  have h60 : x ≤ 65536 := by omega
  rcases Int.lt_or_eq_of_le hx with h | h
  · have hneg : ¬ 0 < x := by omega
    go_enter Try.func32, Try.ntmps32
    go_wp2_with fail
    generalize w.alloc (.cells #[.int .i64 0, .slice none 0 0, .int .i64 0, .int .i64 0, .bool false] 34) = wa at *
    go_loopw [4] (fun x wr => x = .int .i64 0 ∧ wa = wr) (fun x _ => 0)
    case atStart => exact ⟨rfl, rfl⟩
    case round =>
      obtain ⟨rfl, rfl⟩ := hrel
      go_wp2
      go_ret
      exact ⟨T, by rw [e1]; rfl, e2, e3, hk⟩
  · subst h
    go_enter Try.func32, Try.ntmps32
    go_wp2_with fail
    generalize w.alloc (.cells #[.int .i64 0, .slice none 0 0, .int .i64 0, .int .i64 0, .bool false] 34) = wa at *
    go_loopw [4] (fun x wr => x = .int .i64 0 ∧ wa = wr) (fun x _ => 0)
    case atStart => exact ⟨rfl, rfl⟩
    case round =>
      obtain ⟨rfl, rfl⟩ := hrel
      go_wp2
      go_ret
      exact ⟨T, by rw [e1]; rfl, e2, e3, hk⟩

theorem rnew_any (w : World) (n : Nat) (D : List Nat) (hD : ∀ k ∈ D, k < w.heap.size) (hn1 : n < 65536) :
    Calls Try.prog 32 #[.int .i64 n] w (RNewPost n D w) := by
  rcases Nat.eq_zero_or_pos n with h | h
  · subst h; exact rnew_zero w _ D hD (by omega)
  · exact rnew_pos w n D hD h hn1

/-! Two devices side by side. -/
section
variable {w w' : World} {L : Loc} {T : TLoc} {S S' : St}
theorem TwinE.keepL (h : TwinE w T L.own S) (hk : Keep L.own w w') : TwinE w' T L.own S := by
  obtain ⟨X, fz, c, h⟩ := h
  exact ⟨X, fz, c, h.keep hk (fun _ h => h)⟩
theorem TwinE.apart (h : TwinE w T L.own S) : ∀ k ∈ T.own, k ∉ L.own := by
  obtain ⟨X, fz, c, h⟩ := h
  intro k hk
  simp only [TLoc.own, List.mem_cons, List.not_mem_nil, or_false] at hk
  rcases hk with rfl | rfl
  · exact h.mD
  · exact h.lD
end

/-- Words that came in. -/
structure Wds (w : World) (A : Option Addr) (n cap : Nat) (f : Nat → Int) : Prop where
  nc : n ≤ cap
  cap : cap ≤ 9223372036854775807
  cells : 0 < n → ∃ b o, A = some ⟨b, o, none⟩ ∧ b < w.heap.size ∧ ∀ j, j < n → w.cell? ⟨b, o + j, none⟩ = some (.int .u64 (f j))
theorem Wds.keep {w w' : World} {A : Option Addr} {n cap : Nat} {f : Nat → Int} (h : Wds w A n cap f) (hk : Keep [] w w') : Wds w' A n cap f :=
  ⟨h.nc, h.cap, fun h0 => by
    obtain ⟨b, o, h1, h3, h4⟩ := h.cells h0
    exact ⟨b, o, h1, Nat.lt_of_lt_of_le h3 hk.size, fun j hj => (hk.cell (p := ⟨b, _, none⟩) h3 (by simp)).trans (h4 j hj)⟩⟩
theorem Wds.row {w : World} {g n cap : Nat} {f : Nat → Int} (h : Row w 44 g n cap (u64 f)) : Wds w (some ⟨g, 0, none⟩) n cap f :=
  ⟨h.cap_le, by have := h.cap_max; unfold maxLen at this; omega, fun _ => ⟨g, 0, rfl, h.lt, fun j hj => by rw [Nat.zero_add]; exact h.cell hj⟩⟩

/-- What laid does, step by step. -/
def lst (f : Nat → Int) : Nat → List Stp
  | 0 => []
  | k + 1 => lst f k ++ [.st k (f k)]
def lfl : Nat → List Stp
  | 0 => []
  | k + 1 => lfl k ++ [.fl ((8 * k : Nat) : Int)]
def laid1 (n : Nat) (f : Nat → Int) (i : Nat) : St := (play (ofS n fun _ => 0) (lst f i)).1
def laid2 (n : Nat) (f : Nat → Int) (k : Nat) : St := (play (laid1 n f n) (lfl k)).1
def laidS (n : Nat) (f : Nat → Int) : St := fenceS (laid2 n f (nl n))

theorem lst_len (f : Nat → Int) (k : Nat) : (lst f k).length = k := by
  induction k with
  | zero => rfl
  | succ k ih => simp [lst, ih]
theorem lfl_len (k : Nat) : (lfl k).length = k := by
  induction k with
  | zero => rfl
  | succ k ih => simp [lfl, ih]
theorem lst_ok {n : Nat} {f : Nat → Int} {k : Nat} (hk : k ≤ n) : ∀ o ∈ lst f k, opOk n o = true := by
  induction k with
  | zero => intro o ho; cases ho
  | succ k ih =>
    intro o ho
    simp only [lst, List.mem_append, List.mem_cons, List.not_mem_nil, or_false] at ho
    rcases ho with ho | rfl
    · exact ih (by omega) o ho
    · exact hasB_of (by omega) (by omega)
theorem lfl_ok {n k : Nat} (hk : k ≤ nl n) : ∀ o ∈ lfl k, opOk n o = true := by
  induction k with
  | zero => intro o ho; cases ho
  | succ k ih =>
    intro o ho
    simp only [lfl, List.mem_append, List.mem_cons, List.not_mem_nil, or_false] at ho
    rcases ho with ho | rfl
    · exact ih (by omega) o ho
    · unfold nl at hk
      exact hasB_of (by omega) (by omega)
theorem ofS_calm (n : Nat) (f : Nat → Int) : Calm (ofS n f) := ⟨rfl, rfl⟩
theorem laid1_facts (n : Nat) (f : Nat → Int) {i : Nat} (hi' : i ≤ n) : (play (ofS n fun _ => 0) (lst f i)).2 = 0 ∧ Calm (laid1 n f i) ∧ (laid1 n f i).steps = i ∧ (laid1 n f i).n = n := by
  obtain ⟨a, b, c⟩ := play_calm (os := lst f i) (S := ofS n fun _ => 0) (lst_ok hi') (ofS_calm _ _)
  refine ⟨a, b, ?_, play_n _ _⟩
  unfold laid1
  rw [c, lst_len]
  simp [ofS]
theorem laid2_facts (n : Nat) (f : Nat → Int) {k : Nat} (hk : k ≤ nl n) : (play (laid1 n f n) (lfl k)).2 = 0 ∧ Calm (laid2 n f k) ∧ (laid2 n f k).steps = n + k ∧ (laid2 n f k).n = n := by
  obtain ⟨_, b1, b2, b3⟩ := laid1_facts n f (Nat.le_refl n)
  obtain ⟨a, b, c⟩ := play_calm (os := lfl k) (S := laid1 n f n) (by rw [b3]; exact lfl_ok hk) b1
  refine ⟨a, b, ?_, (play_n _ _).trans b3⟩
  unfold laid2
  rw [c, lfl_len, b2]
theorem laid1_next (n : Nat) (f : Nat → Int) {i : Nat} (hi' : i < n) : laid1 n f (i + 1) = storeS (laid1 n f i) i (f i) := by
  have h := (laid1_facts n f (Nat.le_of_lt hi')).1
  unfold laid1
  rw [lst, play_append, if_pos h, play_one]
  rfl
theorem laid2_next (n : Nat) (f : Nat → Int) {k : Nat} (hk : k < nl n) : laid2 n f (k + 1) = flushS (laid2 n f k) ((8 * k : Nat) : Int) := by
  have h := (laid2_facts n f (Nat.le_of_lt hk)).1
  unfold laid2
  rw [lfl, play_append, if_pos h, play_one]
  rfl
theorem laid1_now (n : Nat) (f : Nat → Int) {i : Nat} (hi' : i ≤ n) : ∀ j, j < i → (laid1 n f i).now j = f j := by
  induction i with
  | zero => intro j hj; omega
  | succ i ih =>
    intro j hj
    obtain ⟨_, b1, b2, b3⟩ := laid1_facts n f (Nat.le_of_lt hi')
    rw [laid1_next n f hi', store_now b1.step.1 (by rw [b3]; exact hasB_of (by omega) (by omega))]
    by_cases h : j = i
    · subst h; simp
    · rw [if_neg (by omega)]; exact ih (by omega) j (by omega)
theorem laid2_now (n : Nat) (f : Nat → Int) {k : Nat} (hk : k ≤ nl n) (j : Nat) : (laid2 n f k).now j = (laid1 n f n).now j := by
  induction k with
  | zero => rfl
  | succ k ih => rw [laid2_next n f hk, flush_now, ih (by omega)]
theorem laid2_got (n : Nat) (f : Nat → Int) {k : Nat} (hk : k ≤ nl n) (j : Nat) (hj : j < 8 * k) (hjn : j < n) : Got (f j) (laid2 n f k) j := by
  induction k with
  | zero => omega
  | succ k ih =>
    obtain ⟨_, b1, b2, b3⟩ := laid2_facts n f (Nat.le_of_lt hk)
    rw [laid2_next n f hk]
    by_cases h : j < 8 * k
    · exact (ih (by omega) h).flush _
    · exact got_flush ((laid2_now n f (by omega) j).trans (laid1_now n f (Nat.le_refl _) j hjn)) b1.step.1 (by rw [b3]; unfold nl at hk; exact hasB_of (by omega) (by omega)) (by omega)
theorem laidS_pic (n : Nat) (f : Nat → Int) {j : Nat} (hj : j < n) : Pic (· = f j) (laidS n f) j := by
  obtain ⟨_, b1, b2, b3⟩ := laid2_facts n f (Nat.le_refl (nl n))
  exact (laid2_got n f (Nat.le_refl _) j (by unfold nl; omega) hj).fence_ok b1.step.1
theorem laidS_facts (n : Nat) (f : Nat → Int) : Calm (laidS n f) ∧ (laidS n f).steps = n + nl n + 1 ∧ (laidS n f).n = n ∧ (∀ l, (laidS n f).fl l = false) := by
  obtain ⟨_, b1, b2, b3⟩ := laid2_facts n f (Nat.le_refl (nl n))
  refine ⟨b1.fence, ?_, (fence_n _).trans b3, fun l => ?_⟩
  · unfold laidS; rw [fence_steps, b2]
  · unfold laidS fenceS
    rw [if_neg (by rw [b1.step.1]; simp)]
    rfl
theorem laidS_wd (n : Nat) (f : Nat → Int) (hf : ∀ j, j < n → 0 ≤ f j) : Wd (laidS n f) := by
  have h1 : ∀ i, i ≤ n → Wd (laid1 n f i) := by
    intro i hi'
    induction i with
    | zero => intro j; exact ⟨by show (0 : Int) ≤ 0; omega, by show (0 : Int) ≤ 0; omega, fun h => by cases h⟩
    | succ i ih =>
      intro j
      rw [laid1_next n f hi']
      exact (ih (by omega) j).store _ _ (fun _ => hf i hi')
  have h2 : ∀ k, k ≤ nl n → Wd (laid2 n f k) := by
    intro k hk
    induction k with
    | zero => exact h1 n (Nat.le_refl _)
    | succ k ih =>
      intro j
      rw [laid2_next n f hk]
      exact (ih (by omega) j).flush _
  exact fun j => (h2 _ (Nat.le_refl _) j).fence

def LdRel (w : World) (L : Loc) (T : TLoc) (n : Nat) (f : Nat → Int) (x : Value) (wr : World) : Prop :=
  ∃ i : Nat, x = .int .i64 i ∧ i ≤ n ∧ Dev wr L (laid1 n f i) ∧ TwinE wr T L.own (laid1 n f i) ∧ (∀ k ∈ T.own, k < wr.heap.size) ∧ Keep [] w wr
def LdRel2 (w : World) (L : Loc) (T : TLoc) (n : Nat) (f : Nat → Int) (x : Value) (wr : World) : Prop :=
  ∃ k : Nat, x = .int .i64 ((8 * k : Nat) : Int) ∧ k ≤ nl n ∧ Dev wr L (laid2 n f k) ∧ TwinE wr T L.own (laid2 n f k) ∧ (∀ k ∈ T.own, k < wr.heap.size) ∧ Keep [] w wr

def LaidPost (n : Nat) (f : Nat → Int) (w : World) (e : Ending) (w' : World) : Prop :=
  ∃ L T, e = .returned (.tuple #[.pointer (some ⟨L.d, 0, none⟩), .pointer (some ⟨T.m, 0, none⟩)]) ∧ Dev w' L (laidS n f) ∧ TwinE w' T L.own (laidS n f) ∧ (∀ k ∈ L.own, w.heap.size ≤ k) ∧ (∀ k ∈ T.own, w.heap.size ≤ k) ∧ (∀ k ∈ T.own, k < w'.heap.size) ∧ Keep [] w w'

theorem newN_nat (n : Nat) (hn : n ≤ 65536) : newN (n : Int) = n := by unfold newN; omega

set_option maxHeartbeats 8000000 in
theorem laid_any (w : World) (A : Option Addr) (n cap : Nat) (f : Nat → Int) (h : Wds w A n cap f) (hn : n ≤ 1000) :
    Calls Try.prog 15 #[.slice A n cap] w (LaidPost n f w) := by
  have hN := new_any w n
  rw [newN_nat n (by omega)] at hN
  have hRN := fun W D hD => rnew_any W n D hD (by omega)
  have HRN := Lib.hid hRN
  have HW := Lib.hid h
  clear h hRN
  go_enter Try.func15, Try.ntmps15
  go_wp2_with fail
  (with_reducible refine hN.mono ?_)
  rintro e w1 ⟨L, rfl, hD, hf, hK⟩
  have hr := HRN.out w1 L.own hD.lt
  clear hN
  go_wp2_with fail
  (with_reducible refine hr.mono ?_)
  rintro e w2 ⟨T, rfl, hT, hTo, hK2⟩
  have hD2 := hD.keep hK2 (by simp)
  have hK3 := hK.trans hK2
  have hsz := hK.size
  have hTf : ∀ k ∈ T.own, w.heap.size ≤ k := fun k hk => by have := (hTo k hk).1; omega
  have hTl : ∀ k ∈ T.own, k < w2.heap.size := fun k hk => (hTo k hk).2
  have HLF := Lib.hid hf
  have HTF := Lib.hid hTf
  clear hr hTo hD hK hK2 hsz hf hTf HRN
  go_wp2_with fail
  go_loopw [17] (fun x wr => LdRel w L T n f x wr) (fun x _ => n - (intOf x).toNat)
  case atStart => exact ⟨0, rfl, by omega, hD2, hT, hTl, hK3⟩
  case round =>
    obtain ⟨i, rfl, hin, hD3, hT3, hTl3, hK4⟩ := hrel
    clear hD2 hT hTl hK3
    obtain ⟨_, b1, b2, b3⟩ := laid1_facts n f hin
    by_cases hlt : i < n
    · obtain ⟨b, o, rfl, hb, hcc⟩ := (HW.out.keep hK4).cells (by omega)
      have c0 := hcc i hlt
      have hlt' : (i : Int) < (n : Int) := by omega
      have hcap := HW.out.cap
      have hnc := HW.out.nc
      have hst := store_any wr L _ hD3 i (f i) (by omega) (by omega)
      have hrs := fun W (hk : Keep L.own wr W) => rstore_any W T L.own _ (hT3.keepL hk) i (f i) (by omega) (by omega)
      rw [← laid1_next n f hlt] at hst hrs
      have HRS := Lib.hid hrs
      have HAP := Lib.hid hT3.apart
      clear hcc hrs
      go_wp2_with fail
      (with_reducible refine hst.mono ?_)
      rintro e w3 ⟨rfl, hD5, hK5⟩
      have hrs := HRS.out w3 hK5
      clear hst
      go_wp2_with fail
      (with_reducible refine hrs.mono ?_)
      rintro e w4 ⟨rfl, hT5, hK6⟩
      have hD6 := hD5.keep hK6 HAP.out
      have hTl5 : ∀ k ∈ T.own, k < w4.heap.size := fun k hk => Nat.lt_of_lt_of_le (hTl3 k hk) (Nat.le_trans hK5.size hK6.size)
      have hK7 := (hK4.into hK5 HLF.out).into hK6 HTF.out
      clear hrs
      go_wp2_with fail
      exact ⟨⟨i + 1, by go_num, by omega, hD6, hT5, hTl5, hK7⟩, by simp [intOf]; omega⟩
    · have hik : i = n := by omega
      subst hik
      have hlt' : decide ((i : Int) < (i : Int)) = false := by simp
      have hD4 : Dev wr L (laid2 i f 0) := hD3
      have hT4 : TwinE wr T L.own (laid2 i f 0) := hT3
      clear hD3 hT3
      have hcap := HW.out.cap
      have hnc := HW.out.nc
      generalize wr = wo at *
      go_wp2_with fail
      go_loopw [8] (fun x wr => LdRel2 w L T i f x wr) (fun x _ => (i + 8 - (intOf x).toNat))
      case atStart => exact ⟨0, rfl, by omega, hD4, hT4, hTl3, hK4⟩
      case round =>
        obtain ⟨k, rfl, hk, hD3, hT3, hTl4, hK5⟩ := hrel
        clear hD4 hT4 hTl3 hK4
        obtain ⟨_, d1, d2, d3⟩ := laid2_facts i f hk
        have hkn : k < nl i ↔ ((8 * k : Nat) : Int) < (i : Int) := by unfold nl; omega
        have hb8 : 8 * k ≤ 1008 := by unfold nl at hk; omega
        by_cases hlt : k < nl i
        · have hlt' : ((8 * k : Nat) : Int) < (i : Int) := hkn.1 hlt
          have hst := flush_any wr L _ hD3 ((8 * k : Nat) : Int) (by omega) (by omega)
          have hrs := fun W (hk' : Keep L.own wr W) => rflush_any W T L.own _ (hT3.keepL hk') ((8 * k : Nat) : Int) (by omega) (by omega)
          rw [← laid2_next i f hlt] at hst hrs
          have HRS := Lib.hid hrs
          have HAP := Lib.hid hT3.apart
          have hq : ((8 * k : Nat) : Int) + 8 = ((8 * (k + 1) : Nat) : Int) := by omega
          have HQ := Lib.hid hq
          clear hrs hkn hq
          generalize hqq : ((8 * k : Nat) : Int) = q at *
          have hq8 : 0 ≤ q ∧ q ≤ 1008 := by omega
          have HQQ := Lib.hid hqq
          clear hqq
          go_wp2_with fail
          (with_reducible refine hst.mono ?_)
          rintro e w3 ⟨rfl, hD5, hK6⟩
          have hrs := HRS.out w3 hK6
          clear hst
          go_wp2_with fail
          (with_reducible refine hrs.mono ?_)
          rintro e w4 ⟨rfl, hT5, hK7⟩
          have hD6 := hD5.keep hK7 HAP.out
          have hTl5 : ∀ k ∈ T.own, k < w4.heap.size := fun k hk => Nat.lt_of_lt_of_le (hTl4 k hk) (Nat.le_trans hK6.size hK7.size)
          have hK8 := (hK5.into hK6 HLF.out).into hK7 HTF.out
          clear hrs
          go_wp2_with fail
          exact ⟨⟨k + 1, by rw [← HQ.out], by omega, hD6, hT5, hTl5, hK8⟩, by simp [intOf]; omega⟩
        · have hlt' : decide (((8 * k : Nat) : Int) < (i : Int)) = false := by
            have : ¬ ((8 * k : Nat) : Int) < (i : Int) := fun h => hlt (hkn.2 h)
            simpa using this
          have hkk : k = nl i := by omega
          subst hkk
          have hst := fence_any wr L _ hD3 (by omega) (by omega)
          have hrs := fun W (hk' : Keep L.own wr W) => rfence_any W T L.own _ (hT3.keepL hk') (by omega) (by omega)
          have HRS := Lib.hid hrs
          have HAP := Lib.hid hT3.apart
          clear hrs hkn hlt
          generalize hqq : ((8 * nl i : Nat) : Int) = q at *
          clear hqq
          go_wp2_with fail
          (with_reducible refine hst.mono ?_)
          rintro e w3 ⟨rfl, hD5, hK6⟩
          have hrs := HRS.out w3 hK6
          clear hst
          go_wp2_with fail
          (with_reducible refine hrs.mono ?_)
          rintro e w4 ⟨rfl, hT5, hK7⟩
          have hD6 := hD5.keep hK7 HAP.out
          have hTl5 : ∀ k ∈ T.own, k < w4.heap.size := fun k hk => Nat.lt_of_lt_of_le (hTl4 k hk) (Nat.le_trans hK6.size hK7.size)
          have hK8 := (hK5.into hK6 HLF.out).into hK7 HTF.out
          clear hrs
          go_wp2
          go_ret2
          exact ⟨L, T, rfl, hD6, hT5, HLF.out, HTF.out, hTl5, hK8⟩
end Go.Proofs.Ytejhdmpobaffcaa
