/-
  Rows of numbers that a call makes; the document's twin's SameInts. No conditions but what is in memory.
-/
import Derived.Test.YtejepiobdkbgpaaLcf
import Derived.Test.YtejepiobdkbgpaaRows
import Derived.Test.YtejepiobdkbgpaaRound
import Derived.Maps.AppendAt
import Derived.RegionTactic
import Derived.BigRegion
namespace Go.Flo
open Go.RowKit Go.Bit

def i64v (x : Int) : Value := .int .i64 x
/-- A list of numbers in memory. -/
def IntL (w : World) (A : Option Addr) (c : Nat) (l : List Int) : Prop := Ints w A l.length c (fun i => l.getD i 0)
theorem IntL.keep {w w' : World} {A : Option Addr} {c : Nat} {l : List Int} (h : IntL w A c l) (hk : Keep [] w w') : IntL w' A c l := Ints.keep h hk

theorem owns_intl {w : World} {B : Nat} {ty : TypeId} {v : Value} {l : List Int} (h : w.ownsRow B ty 1 v l.length (l.map i64v)) : ∃ A c, v = .slice A l.length c ∧ IntL w A c l := by
  have e : l.map i64v = (List.range l.length).map fun i => i64v (l.getD i 0) := by
    apply List.ext_getElem
    · simp
    · intro i h1 h2
      simp at h1
      simp [List.getD_eq_getElem?_getD, h1]
  rw [e] at h
  rcases h.2 with ⟨rfl, h0⟩ | ⟨g, cap, cur, rfl, hg, _⟩
  · have hn : l.length = 0 := by first | exact h0 | exact h0.1 | exact h0.2
    have hl : l = [] := List.length_eq_zero_iff.1 hn
    subst hl
    exact ⟨none, 0, rfl, Ints.none _ _⟩
  · have hr := Row.of_owns h
    have hm := hr.cap_max
    unfold maxLen at hm
    exact ⟨some ⟨g, 0, none⟩, cap, rfl, ⟨hr.cap_le, fun e => (by cases e), by omega, fun _ => ⟨g, 0, rfl, hr.lt, fun j hj => by rw [Nat.zero_add]; exact hr.cell hj⟩⟩⟩

/-- The same numbers. -/
def SameI (m : Nat) (f : Nat → Int) (m' : Nat) (f' : Nat → Int) : Prop := m = m' ∧ ∀ j, j < m → f j = f' j
instance (m : Nat) (f : Nat → Int) (m' : Nat) (f' : Nat → Int) : Decidable (SameI m f m' f') := by unfold SameI; infer_instance
end Go.Flo
namespace Go.Proofs.Ytejepiobdkbgpaa
open Go.RowKit Go.Flo Go.Bit
set_option maxRecDepth 100000

theorem addr_add0 (b o j : Nat) : (⟨b, o, none⟩ : Addr).add j = ⟨b, o + j, none⟩ := by unfold Addr.add; split <;> simp_all

theorem info_of {P : Program} {t : TypeId} {z : Option Value} {s b : Nat} (h : (P.info? t).map (fun i => (i.zero, i.size, i.bytes)) = some (z, s, b)) : ∃ i, P.info? t = some i ∧ i.zero = z ∧ i.size = s ∧ i.bytes = b := by
  cases hq : P.info? t with
  | none => simp [hq] at h
  | some i =>
    simp [hq] at h
    exact ⟨i, rfl, h.1, h.2.1, h.2.2⟩

theorem grown_keep {w0 w w' : World} {B n size : Nat} {t : TypeId} {v : Value} {xs : List Value} (h : Keep [] w0 w) (hB : w0.heap.size ≤ B) (hown : w.ownsRow B t size v n xs) (hg : w.grownBy w' v.ownBlock) : Keep [] w0 w' := by
  rcases hown.2 with ⟨rfl, _⟩ | ⟨g, cap, cur, rfl, hgB, _⟩
  · exact h.trans (Keep.grown hg (fun k _ e => by simp [Value.ownBlock] at e))
  · exact h.since (own := [g]) (Keep.grown hg (fun k _ e => by simp [Value.ownBlock] at e; simp [e])) (by simp; omega)

theorem grown_blk {w w' : World} {B n size g : Nat} {t t' : TypeId} {v : Value} {xs : List Value} {cs : Array Value} (h : Blk w g t' cs) (hB : g < B) (hown : w.ownsRow B t size v n xs) (hg : w.grownBy w' v.ownBlock) : Blk w' g t' cs := by
  rcases hown.2 with ⟨rfl, _⟩ | ⟨g', cap, cur, rfl, hgB, _⟩
  · exact h.keep (own := []) (Keep.grown hg (fun k _ e => by simp [Value.ownBlock] at e)) (by simp)
  · exact h.keep (own := [g']) (Keep.grown hg (fun k _ e => by simp [Value.ownBlock] at e; simp [e])) (by simp; omega)

theorem owns_kept {w w' : World} {B n size : Nat} {t : TypeId} {v : Value} {xs : List Value} (hown : w.ownsRow B t size v n xs) (hk : Keep [] w w') : w'.ownsRow B t size v n xs := by
  refine ⟨hown.1, ?_⟩
  rcases hown.2 with h | ⟨g, cap, cur, h1, h2, h3, h4⟩
  · exact Or.inl h
  · refine Or.inr ⟨g, cap, cur, h1, h2, ?_, h4⟩
    rw [hk.block g (by rcases Nat.lt_or_ge g w.heap.size with h | h; exact h; rw [Array.getElem?_eq_none h] at h3; cases h3) (by simp)]
    exact h3

theorem one_new6 (W : World) (v : Value) (t : TypeId) : ∀ j u, [v][j]? = some u → (W.alloc (.cells #[v] t)).cell? ((⟨W.heap.size, 0, none⟩ : Addr).add j) = some u := by
  intro j u hu
  match j, hu with
  | 0, hu =>
    rw [addr_add0]
    have := (Blk.new W t #[v]).cell 0
    rw [Nat.zero_add, this]
    simpa using hu

theorem owns_sl {w : World} {B n size : Nat} {t : TypeId} {v : Value} {xs : List Value} (hown : w.ownsRow B t size v n xs) : ∃ A c, v = .slice A n c := by
  rcases hown.2 with ⟨rfl, h⟩ | ⟨g', cap', cur, rfl, _⟩
  · have hn : n = 0 := by first | exact h | exact h.1 | exact h.2
    subst hn
    exact ⟨none, 0, rfl⟩
  · exact ⟨_, _, rfl⟩

theorem owns_keepO {w w' : World} {B n size : Nat} {t : TypeId} {v : Value} {xs : List Value} {own : List Nat} (hown : w.ownsRow B t size v n xs) (hk : Keep own w w') (hne : ∀ g, v.ownBlock = some g → g ∉ own) : w'.ownsRow B t size v n xs := by
  refine ⟨hown.1, ?_⟩
  rcases hown.2 with h | ⟨g, cap, cur, h1, h2, h3, h4⟩
  · exact Or.inl h
  · refine Or.inr ⟨g, cap, cur, h1, h2, ?_, h4⟩
    rw [hk.block g (by rcases Nat.lt_or_ge g w.heap.size with h | h; exact h; rw [Array.getElem?_eq_none h] at h3; cases h3) (hne g (by rw [h1]; rfl))]
    exact h3

theorem intparts : (Try.prog.info? 3).map (fun i => (i.zero, i.size, i.bytes)) = some (some (.int .i64 0), 1, 8) := by kernel_rfl

def SiRel (w : World) (m : Nat) (f f' : Nat → Int) (x : Value) (wr : World) : Prop := ∃ j : Nat, j ≤ m ∧ x = .int .i64 j ∧ (∀ i, i < j → f i = f' i) ∧ Dr w wr

set_option maxHeartbeats 1000000 in
theorem sameInts_any (w : World) (A A' : Option Addr) (m c m' c' : Nat) (f f' : Nat → Int) (h : Ints w A m c f) (h' : Ints w A' m' c' f') :
    Calls Try.prog 20 #[.slice A m c, .slice A' m' c'] w fun e w' => e = .returned (.bool (decide (SameI m f m' f'))) ∧ Dr w w' := by
  by_cases c1 : m = m'
  case neg =>
    rw [show decide (SameI m f m' f') = false from decide_eq_false (fun h => c1 h.1)]
    have c2 : ((m : Int) == (m' : Int)) = false := by simp; omega
    go_enter Try.func20, Try.ntmps20
    go_wp2
    go_ret
    exact ⟨rfl, Dr.refl _⟩
  subst c1
  have HI := Lib.hid h
  have HI' := Lib.hid h'
  have hcm := h.nc
  have hcc := h.cap
  clear h h'
  go_enter Try.func20, Try.ntmps20
  go_wp2
  go_loopw [13] (fun x wr => SiRel w m f f' x wr) (fun x _ => m - (intOf x).toNat)
  case atStart => exact ⟨0, by omega, rfl, fun i hi => by omega, Dr.refl _⟩
  case round =>
  obtain ⟨j, hj, rfl, hok, hD⟩ := hrel
  have HO := Lib.hid hok
  clear hok
  by_cases hlt : j < m
  case neg =>
    obtain rfl : j = m := by omega
    have HD := Lib.hid (show decide (SameI j f j f') = true from decide_eq_true ⟨rfl, HO.out⟩)
    go_wp2
    go_ret
    exact ⟨by rw [HD.out]; rfl, hD⟩
  obtain ⟨b, o, rfl, hb, hc⟩ := (HI.out.keep (Keep.dr hD)).cells (by omega)
  obtain ⟨b', o', rfl, hb', hc'⟩ := (HI'.out.keep (Keep.dr hD)).cells (by omega)
  have cj := hc j hlt
  have cj' := hc' j hlt
  clear hc hc'
  by_cases he : f j = f' j
  · have HE := Lib.hid he
    have he2 : (f j == f' j) = true := by simp [he]
    clear he
    go_wp2_with fail
    go_quiet (fail)
    go_wp2
    go_roundw
    case rel => exact ⟨j + 1, by omega, by go_num, fun i hi => by
      rcases Nat.lt_or_ge i j with h | h
      · exact HO.out i h
      · rw [show i = j by omega]; exact HE.out, hD.trans (Dr.drewN _ _)⟩
    case measure => simp [intOf]; omega
  · have he2 : (f j == f' j) = false := by simp [he]
    have HD := Lib.hid (show decide (SameI m f m f') = false from decide_eq_false (fun hx => he (hx.2 j hlt)))
    clear he
    go_wp2_with fail
    go_quiet (fail)
    go_wp2
    go_ret
    exact ⟨by rw [HD.out]; rfl, hD.trans (Dr.drewN _ _)⟩

end Go.Proofs.Ytejepiobdkbgpaa
