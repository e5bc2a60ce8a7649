/-
  A builder in memory under what keeps all that was there; the program's writeRoots. Conditions: what the library's tables hold; a builder in memory; texts not longer than one may be.
-/
import Derived.Test.YtigclopkoolocaaDoorBld
namespace Go.Proofs.YtigclopkoolocaaDoor
open Go.RowKit Go.Flo Go.Lib
set_option maxRecDepth 100000

theorem Bd.keep {w w' : World} {B b : Nat} {l : List UInt8} (h : Bd w B b l) (hk : Keep [] w w') : Bd w' B b l := by
  have key : ∀ p, Lib.BuilderAtF 51 5 B b p (Lib.byteCells l) w → Lib.BuilderAtF 51 5 B b p (Lib.byteCells l) w' := by
    rintro p ⟨hB, v, hb, hown, hne⟩
    have hlt : ∀ {k : Nat} {o : Obj}, w.heap[k]? = some o → k < w.heap.size := fun {k o} e => by
      rcases Nat.lt_or_ge k w.heap.size with h' | h'
      · exact h'
      · simp [Array.getElem?_eq_none h'] at e
    refine ⟨hB, v, (hk.block b (hlt hb) (by simp)).trans hb, ⟨hown.1, ?_⟩, hne⟩
    rcases hown.2 with h0 | ⟨g, cap, cur, fz, e, h1, h2, h3⟩
    · exact Or.inl h0
    · exact Or.inr ⟨g, cap, cur, fz, e, h1, (hk.block g (hlt h2) (by simp)).trans h2, h3⟩
  exact h.elim (fun x => .inl (key _ x)) (fun x => .inr (key _ x))

theorem oth_keep {b : Nat} {a w w' : World} (h : Oth b a w) (hk : Keep [] w w') : Oth b a w' := fun k o ho hb hc => by
  have h1 := h k o ho hb hc
  have hlt : k < w.heap.size := by
    rcases Nat.lt_or_ge k w.heap.size with h' | h'
    · exact h'
    · simp [Array.getElem?_eq_none h'] at h1
  exact (hk.block k hlt (by simp)).trans h1

theorem oth_blk {b k : Nat} {w w' : World} {t : TypeId} {cs : Array Value} (h : Oth b w w') (hb : Blk w k t cs) (hk : k ≠ b) (ht : t ≠ 5) : Blk w' k t cs :=
  h k _ hb (fun e => hk (Option.some.inj e)) (fun c fz e => by injection e with _ e; exact ht e)

theorem below_keep {B : Nat} {a w w' : World} (h : Below B a w) (hB : B ≤ a.heap.size) (hk : Keep [] w w') : Below B a w' :=
  h.trans (hk.below (Nat.le_trans hB h.size) (by simp))

theorem write_m (B b : Nat) (l : List UInt8) (m : ByteArray) (w : World) (h : Bd w B b l) (hlen : l.length + m.size ≤ 140737488355328) (hBw : B ≤ w.heap.size) :
    Calls Tryd.prog 26 #[.pointer (some ⟨b, 0, none⟩), .string m] w fun e w' => e = .returned (.tuple #[.int .i64 m.size, .nilIface]) ∧ Bd w' B b (l ++ m.data.toList) ∧ Below B w w' ∧ Oth b w w' := by
  have hs : m.data.toList.length = m.size := Array.length_toList
  have h1 := write_any B b l m.data.toList w h (by omega) hBw
  rw [bs_data, hs] at h1
  exact h1

theorem itoa_len (n : Int) (h0 : -9223372036854775808 ≤ n) (h1 : n ≤ 9223372036854775807) : (itoa n).length ≤ 21 := Lib.itoa_length_le n h0 h1

theorem toks_len {l : List (List UInt8)} {k : Nat} (h : ∀ t ∈ l, t.length ≤ k) : (toksT l).length ≤ (k + 1) * l.length := by
  induction l with
  | nil => simp [toksT]
  | cons t l ih =>
    rw [toksT_cons, List.length_cons, List.length_append, List.length_cons, Nat.mul_add, Nat.mul_one]
    have := h t (by simp)
    have := ih (fun t ht => h t (by simp [ht]))
    omega

theorem ints_len {l : List Int} (hb : ∀ r ∈ l, -9223372036854775808 ≤ r ∧ r ≤ 9223372036854775807) : (toksT (l.map itoa)).length ≤ 22 * l.length := by
  have h := toks_len (l := l.map itoa) (k := 21) (fun t ht => by
    obtain ⟨r, hr, rfl⟩ := List.mem_map.1 ht
    exact itoa_len r (hb r hr).1 (hb r hr).2)
  rwa [List.length_map] at h

def WRPost (B b : Nat) (l : List UInt8) (w : World) (e : Ending) (w' : World) : Prop := e = .returned (.tuple #[]) ∧ Bd w' B b l ∧ Below B w w' ∧ Oth b w w'

set_option maxHeartbeats 4000000 in
theorem writeRoots_any (w0 w : World) (A : Option Addr) (c : Nat) (l : List Int) (hl : IntL w0 A c l) (hlb : ∀ r ∈ l, -9223372036854775808 ≤ r ∧ r ≤ 9223372036854775807) (hll : l.length ≤ 65536) (hT : Tabs w0) (h0 : Below w0.heap.size w0 w)
    (b : Nat) (pre : List UInt8) (m : ByteArray) (hm : m.size ≤ 5) (hpl : pre.length ≤ 70368744177664) (hB : Bd w w0.heap.size b pre) :
    Calls Tryd.prog 29 #[.pointer (some ⟨b, 0, none⟩), .string m, .slice A l.length c] w (WRPost w0.heap.size b (pre ++ (m.data.toList ++ (toksT (l.map itoa) ++ [10]))) w) := by
  have hW1 := write_m w0.heap.size b pre m w hB (by omega) h0.size
  have hnc := hl.nc
  have hncm := hl.cap
  have HL := Lib.hid (And.intro hl (And.intro hlb (And.intro hT h0)))
  have hms : m.data.toList.length = m.size := Array.length_toList
  have hns := h0.size
  obtain ⟨P1, hP1⟩ : ∃ P1, pre ++ m.data.toList = P1 := ⟨_, rfl⟩
  have hP1l : P1.length ≤ 70368744177669 := by rw [← hP1, List.length_append, hms]; omega
  rw [hP1] at hW1
  rw [← List.append_assoc, hP1]
  obtain ⟨n, hn⟩ : ∃ n, l.length = n := ⟨_, rfl⟩
  rw [hn] at hll hnc ⊢
  have HN := Lib.hid hn
  unfold WRPost
  clear hl hlb hT h0 hB hP1 hms hn
  go_enter Tryd.func29, Tryd.ntmps29
  go_wp2_with fail
  (with_reducible refine hW1.mono ?_)
  rintro e w1 ⟨rfl, hB1, hb1, ho1⟩
  have H1 := Lib.hid (And.intro hB1 (And.intro hb1 ho1))
  clear hW1 hB1 hb1 ho1
  go_wp2
  go_loopw [13] (fun x wr => ∃ j : Nat, j ≤ n ∧ x = .int .i64 j ∧ Bd wr w0.heap.size b (P1 ++ toksT ((l.take j).map itoa)) ∧ Below w0.heap.size w wr ∧ Oth b w wr) (fun x _ => n - (RowKit.intOf x).toNat)
  case atStart => exact ⟨0, by omega, rfl, by simpa [toksT] using H1.out.1, H1.out.2.1, H1.out.2.2⟩
  case round =>
  obtain ⟨j, hj, rfl, hBj, hbj, hoj⟩ := hrel
  have hwr : w0.heap.size ≤ wr.heap.size := by have := hbj.size; omega
  have htk : ∀ k, k ≤ n → (toksT ((l.take k).map itoa)).length ≤ 22 * k := fun k hk => by
    have h := ints_len (l := l.take k) (fun r hr => HL.out.2.1 r (List.mem_of_mem_take hr))
    rw [List.length_take, HN.out, Nat.min_eq_left hk] at h
    exact h
  by_cases hlt : j < n
  case neg =>
    obtain rfl : j = n := by omega
    have htn : l.take j = l := List.take_of_length_le (by rw [HN.out]; exact Nat.le_refl _)
    have hlen := htk j hj
    rw [htn] at hBj hlen
    have hW := write_m w0.heap.size b _ { data := #[10] } wr hBj (by rw [List.length_append]; show _ + 1 ≤ _; omega) hwr
    have HB := Lib.hid (And.intro hbj hoj)
    clear hBj hbj hoj htk hlen htn
    go_wp2_with fail
    (with_reducible refine hW.mono ?_)
    rintro e w2 ⟨rfl, hB2, hb2, ho2⟩
    have HF := Lib.hid (And.intro hB2 (And.intro hb2 ho2))
    clear hW hB2 hb2 ho2
    go_wp2
    go_end0
    exact ⟨rfl, by rw [← List.append_assoc]; exact HF.out.1, HB.out.1.trans HF.out.2.1, HB.out.2.trans HF.out.2.2⟩
  have hlj : j < l.length := by rw [HN.out]; exact hlt
  obtain ⟨bR, oR, rfl, hbR, hcR⟩ := HL.out.1.cells (by omega)
  have hkw : Keep [] w0 wr := keep_of (HL.out.2.2.2.trans hbj)
  have cj := (hkw.cell (p := ⟨bR, oR + j, none⟩) hbR (by simp)).trans (hcR j hlj)
  obtain ⟨x, hx⟩ : ∃ x, l.getD j 0 = x := ⟨_, rfl⟩
  rw [hx] at cj
  have hxm : x ∈ l := by rw [← hx, List.getD_eq_getElem?_getD, List.getElem?_eq_getElem hlj]; exact List.getElem_mem hlj
  have hxb := HL.out.2.1 x hxm
  have hIt := itoa_any x hxb.1 hxb.2 wr (HL.out.2.2.1.keep hkw)
  have hzY : (bs (itoa x)).size ≤ 21 := Lib.itoa_length_le x hxb.1 hxb.2
  have ht : l.take (j + 1) = l.take j ++ [x] := by
    rw [List.take_add_one, List.getElem?_eq_getElem hlj, ← hx, List.getD_eq_getElem?_getD, List.getElem?_eq_getElem hlj]
    rfl
  have hYd : ({ data := #[32] } ++ bs (itoa x) : ByteArray).data.toList = 32 :: itoa x := by rw [bs_cons]; simp [bs]
  have hcat : P1 ++ toksT ((l.take (j + 1)).map itoa) = P1 ++ toksT ((l.take j).map itoa) ++ (32 :: itoa x) := by
    rw [ht, List.map_append, List.map_cons, List.map_nil, toksT_snoc, List.append_assoc]
  have hlen := htk j hj
  have HJ := Lib.hid (And.intro hBj (And.intro hbj (And.intro hoj (And.intro hcat hYd))))
  have hWn := fun W (hk : Keep [] wr W) => write_m w0.heap.size b _ ({ data := #[32] } ++ bs (itoa x)) W (hBj.keep hk) (by rw [ByteArray.size_append, List.length_append]; show _ + (1 + _) ≤ _; omega) (Nat.le_trans hwr hk.size)
  rw [hYd] at hWn
  rw [← hcat] at hWn
  have HW := Lib.hid hWn
  have hz1 : ¬ 9223372036854775807 < 1 + (bs (itoa x)).size := by omega
  clear hBj hbj hoj hkw hcat hYd htk hxm hlen ht hWn hxb
  generalize bs (itoa x) = Y at *
  go_wp2_with fail
  (with_reducible refine hIt.mono ?_)
  rintro e w2 ⟨rfl, k2⟩
  have hw2 := HW.out w2 k2
  have HK2 := Lib.hid k2
  clear k2 hIt cj
  go_wp2_with fail
  (with_reducible refine hw2.mono ?_)
  rintro e w3 ⟨rfl, hB3, hb3, ho3⟩
  have HF := Lib.hid (And.intro hB3 (And.intro hb3 ho3))
  clear hw2 hB3 hb3 ho3
  go_wp2
  go_roundw
  case rel => exact ⟨j + 1, by omega, by go_num, HF.out.1, (below_keep HJ.out.2.1 hns HK2.out).trans HF.out.2.1, (oth_keep HJ.out.2.2.1 HK2.out).trans HF.out.2.2⟩
  case measure => simp [RowKit.intOf]; omega
end Go.Proofs.YtigclopkoolocaaDoor
