/-
  Graphs in memory; the document's twin of package graph: the row of nodes (put), which graph may be. No conditions but what is in memory.
-/
import Derived.Test.YtigclopkoolocaaDoorVls
import Derived.Test.YtigclopkoolocaaDoorGrm3
namespace Go.Flo
open Go.RowKit Go.Bit

def i64v (x : Int) : Value := .int .i64 x
/-- A list of numbers in memory. -/
def IntL (w : World) (A : Option Addr) (c : Nat) (l : List Int) : Prop := Ints w A l.length c (fun i => l.getD i 0)
theorem IntL.keep {w w' : World} {A : Option Addr} {c : Nat} {l : List Int} (h : IntL w A c l) (hk : Keep [] w w') : IntL w' A c l := Ints.keep h hk

theorem owns_intl {w : World} {B : Nat} {ty : TypeId} {v : Value} {l : List Int} (h : w.ownsRow B ty 1 v l.length (l.map i64v)) : ∃ A c, v = .slice A l.length c ∧ IntL w A c l := by
  have e : l.map i64v = (List.range l.length).map fun i => i64v (l.getD i 0) := by
    apply List.ext_getElem
    · simp
    · intro i h1 h2
      simp at h1
      simp [List.getD_eq_getElem?_getD, h1]
  rw [e] at h
  rcases h.2 with ⟨rfl, h0⟩ | ⟨g, cap, cur, rfl, hg, _⟩
  · have hn : l.length = 0 := by first | exact h0 | exact h0.1 | exact h0.2
    have hl : l = [] := List.length_eq_zero_iff.1 hn
    subst hl
    exact ⟨none, 0, rfl, Ints.none _ _⟩
  · have hr := Row.of_owns h
    have hm := hr.cap_max
    unfold maxLen at hm
    exact ⟨some ⟨g, 0, none⟩, cap, rfl, ⟨hr.cap_le, fun e => (by cases e), by omega, fun _ => ⟨g, 0, rfl, hr.lt, fun j hj => by rw [Nat.zero_add]; exact hr.cell hj⟩⟩⟩

/-- Nodes in memory. -/
structure NodL (w : World) (A : Option Addr) (cap : Nat) (L : List Nod) : Prop where
  nc : L.length ≤ cap
  cap : cap ≤ 9223372036854775807
  cells : 0 < L.length → ∃ b o, A = some ⟨b, o, none⟩ ∧ b < w.heap.size ∧ ∀ i, i < L.length → ∃ A' c', w.cell? ⟨b, o + i * 2, none⟩ = some (.int .i64 (L.getD i nod0).K) ∧
    w.cell? ⟨b, o + i * 2 + 1, none⟩ = some (.slice A' (L.getD i nod0).fs.length c') ∧ Vals w A' (L.getD i nod0).fs.length c' (fun j => (L.getD i nod0).fs.getD j z0)
theorem NodL.keep {w w' : World} {A : Option Addr} {cap : Nat} {L : List Nod} (h : NodL w A cap L) (hk : Keep [] w w') : NodL w' A cap L :=
  ⟨h.nc, h.cap, fun h0 => by
    obtain ⟨b, o, h1, h3, h4⟩ := h.cells h0
    refine ⟨b, o, h1, Nat.lt_of_lt_of_le h3 hk.size, fun j hj => ?_⟩
    obtain ⟨A', c', e1, e2, e3⟩ := h4 j hj
    exact ⟨A', c', (hk.cell (p := ⟨b, _, none⟩) h3 (by simp)).trans e1, (hk.cell (p := ⟨b, _, none⟩) h3 (by simp)).trans e2, e3.keep hk⟩⟩

/-- A graph in memory. -/
structure GIn (w : World) (A0 A1 A2 : Option Addr) (c0 c1 c2 : Nat) (g : Gr) : Prop where
  nodes : NodL w A0 c0 g.nodes
  roots : IntL w A1 c1 g.roots
  weaks : IntL w A2 c2 g.weaks
theorem GIn.keep {w w' : World} {A0 A1 A2 : Option Addr} {c0 c1 c2 : Nat} {g : Gr} (h : GIn w A0 A1 A2 c0 c1 c2 g) (hk : Keep [] w w') : GIn w' A0 A1 A2 c0 c1 c2 g :=
  ⟨h.nodes.keep hk, h.roots.keep hk, h.weaks.keep hk⟩

def natv (i : Nat) : Value := .int .i64 (i : Nat)
/-- The twin's row: r its block, s the block of what has been seen; B: where its own row begins. -/
structure Rwd (w : World) (r s B n : Nat) (row : List Nat) : Prop where
  blk : ∃ v, Blk w r 74 #[v, .slice (some ⟨s, 0, none⟩) n n] ∧ w.ownsRow B 3 1 v row.length (row.map natv)
  seen : Row w 4 s n n (fun i => .bool (decide (i ∈ row)))
  ne : r ≠ s
  rB : r < B
  sB : s < B
  Bw : B ≤ w.heap.size
  fine : Fine n row

theorem below_keep {B : Nat} {w w' : World} (h : Below B w w') (hB : w.heap.size ≤ B) : Keep [] w w' := ⟨h.os, h.tape, h.output, h.size, fun k hk _ => h.block k (by omega)⟩
end Go.Flo
namespace Go.Proofs.YtigclopkoolocaaDoor
open Go.RowKit Go.Flo Go.Bit
set_option maxRecDepth 100000

theorem owns_sl {w : World} {B n size : Nat} {t : TypeId} {v : Value} {xs : List Value} (hown : w.ownsRow B t size v n xs) : ∃ A c, v = .slice A n c := by
  rcases hown.2 with ⟨rfl, h⟩ | ⟨g', cap', cur, rfl, _⟩
  · have hn : n = 0 := by first | exact h | exact h.1 | exact h.2
    subst hn
    exact ⟨none, 0, rfl⟩
  · exact ⟨_, _, rfl⟩

theorem grown_row {w w' : World} {B n size g m cap : Nat} {t t' : TypeId} {v : Value} {xs : List Value} {f : Nat → Value} (h : Row w t' g m cap f) (hB : g < B) (hown : w.ownsRow B t size v n xs) (hg : w.grownBy w' v.ownBlock) : Row w' t' g m cap f := by
  rcases hown.2 with ⟨rfl, _⟩ | ⟨g', cap', cur, rfl, hgB, _⟩
  · exact h.keep (own := []) (Keep.grown hg (fun k _ e => by simp [Value.ownBlock] at e)) (by simp)
  · exact h.keep (own := [g']) (Keep.grown hg (fun k _ e => by simp [Value.ownBlock] at e; simp [e])) (by simp; omega)

set_option maxHeartbeats 1000000 in
theorem put_any (w : World) (r s B n : Nat) (row : List Nat) (i : Int) (h : Rwd w r s B n row) (hn : n ≤ 65536) :
    Calls Tryd.prog 42 #[.pointer (some ⟨r, 0, none⟩), .int .i64 i] w fun e w' => e = .returned (.tuple #[]) ∧ Rwd w' r s B n (put n row i) ∧ ∀ base, base ≤ r → base ≤ s → base ≤ B → Below base w w' := by
  obtain ⟨v, hblk, hown⟩ := h.blk
  have c0 := (hblk.cell 0).trans (show _ = some v from rfl)
  have c1 := (hblk.cell 1).trans (show _ = some (Value.slice (some ⟨s, 0, none⟩) n n) from rfl)
  have HR := Lib.hid h
  by_cases h0 : i < 0
  · have h0' : ¬ 0 ≤ i := by omega
    have HD := Lib.hid (show put n row i = row from if_neg (by omega))
    clear h hown hblk
    go_enter Tryd.func42, Tryd.ntmps42
    go_wp2
    go_end0
    rw [HD.out]
    exact ⟨rfl, HR.out, fun _ _ _ _ => Below.refl _ _⟩
  obtain ⟨k, rfl⟩ : ∃ k : Nat, i = k := ⟨i.toNat, by omega⟩
  by_cases h1 : n ≤ k
  · have h1' : ¬ (k : Int) < n := by omega
    have HD := Lib.hid (show put n row k = row from if_neg (by omega))
    clear h hown hblk
    go_enter Tryd.func42, Tryd.ntmps42
    go_wp2
    go_end0
    rw [HD.out]
    exact ⟨rfl, HR.out, fun _ _ _ _ => Below.refl _ _⟩
  have h1' : (k : Int) < n := by omega
  have cs := h.seen.cell (i := k) (by omega)
  by_cases hm : k ∈ row
  · rw [decide_eq_true hm] at cs
    have HD := Lib.hid (show put n row k = row from if_neg (fun e => e.2.2 (by simpa using hm)))
    clear h hown hblk hm
    go_enter Tryd.func42, Tryd.ntmps42
    go_wp2
    go_end0
    rw [HD.out]
    exact ⟨rfl, HR.out, fun _ _ _ _ => Below.refl _ _⟩
  rw [decide_eq_false hm] at cs
  have hlen := h.fine.len
  have hne := h.ne
  have hrB := h.rB
  have hsB := h.sB
  have hBw := h.Bw
  have HD := Lib.hid (show put n row k = row ++ [k] by unfold put; rw [if_pos ⟨by omega, by omega, by simpa using hm⟩, Int.toNat_natCast])
  have fs := h.seen.frozen k
  have f0 := hblk.frozen 0
  have hne2 : ¬ s = r := fun e => hne e.symm
  have hrw := hblk.lt
  have ho2 := ownsRow_setCell_below hown (a := ⟨s, k, none⟩) (by show s < B; exact hsB) (.bool true)
  have HO := Lib.hid (ho2.alloc (.cells #[.int .i64 (k : Nat)] 3))
  have HS := Lib.hid h.seen
  have HB := Lib.hid hblk
  have hnw := one_new6 (w.setCell ⟨s, k, none⟩ (.bool true)) (.int .i64 (k : Nat)) 3
  rw [show (w.setCell ⟨s, k, none⟩ (.bool true)).heap.size = w.heap.size by simp [World.setCell]] at hnw
  have HNW := Lib.hid hnw
  have HF := Lib.hid (put_fine (n := n) (k : Int) h.fine)
  clear h hown hblk ho2 hm hnw
  obtain ⟨ii, hii, hz0, hz1, hz2⟩ := info_of intparts
  go_enter Tryd.func42, Tryd.ntmps42
  go_wp2_with (at_builtin; refine wpList_append_own_at _ rfl (.tmp 35) (.tmp 37) 23 rfl B 3 ii (.int .i64 0) 1 8 Tryd.underlying23 hii hz0 hz1 hz2 rfl (by omega) v row.length (row.map natv) rfl HO.out ⟨w.heap.size, 0, none⟩ 1 1 [.int .i64 (k : Nat)] rfl rfl HNW.out ?c3 ?c4 ?c5 ?c6 ?_)
  case c3 => first | rfl | (intro z hz; simp at hz; subst hz; rfl)
  case c4 => unfold maxLen; omega
  case c5 => omega
  case c6 => first | omega | (simp [World.setCell]; omega)
  intro v' w' hown hgrow _ _
  have hs4 : Row (w.setCell ⟨s, k, none⟩ (.bool true)) 4 s n n (fun i => .bool (decide (i ∈ row ++ [k]))) := (HS.out.set_ k (.bool true)).congr (fun a ha => by
    by_cases e : a = k
    · subst e; simp
    · rw [if_neg e]
      congr 1
      simp [e])
  have hb4 := HB.out.far (p := ⟨s, k, none⟩) hne (.bool true)
  have ka : Keep [] (w.setCell ⟨s, k, none⟩ (.bool true)) ((w.setCell ⟨s, k, none⟩ (.bool true)).alloc (.cells #[.int .i64 (k : Nat)] 3)) := Keep.alloc _ _
  have hs5 := grown_row (hs4.keep ka (by simp)) hsB HO.out hgrow
  have hb5 := grown_blk (hb4.keep ka (by simp)) hrB HO.out hgrow
  have hbel : ∀ base, base ≤ r → base ≤ s → base ≤ B → Below base w w' := fun base b1 b2 b3 => by
    refine Below.grown (((Below.refl base w).setCell (p := ⟨s, k, none⟩) b2 _).alloc (by simp [World.setCell]; omega) _) hgrow (by simp [World.setCell]; omega) ?_
    intro g hg
    have := (HO.out.lt g hg).1
    omega
  have hsz : B ≤ w'.heap.size := by have := (hbel 0 (by omega) (by omega) (by omega)).size; omega
  obtain ⟨A2, c2, rfl⟩ := owns_sl hown
  have hown2 : w'.ownsRow B 3 1 (.slice A2 (row.length + 1) c2) (row ++ [k]).length ((row ++ [k]).map natv) := by
    rw [List.map_append, List.length_append]
    exact hown
  have y0 := (hb5.cell 0).trans (show _ = some v from rfl)
  have y1 := hb5.frozen 0
  have HH := Lib.hid (And.intro hown2 (And.intro hs5 (And.intro hb5 (And.intro hbel hsz))))
  clear hown hown2 hgrow hs4 hb4 ka hs5 hb5 hbel hsz c0 c1 cs fs f0
  go_wp2
  go_end0
  rw [HD.out]
  obtain ⟨g1, g2, g3, g4, g5⟩ := HH.out
  refine ⟨rfl, ⟨⟨_, g3.set_ 0 _, ownsRow_setCell_below g1 (a := ⟨r, 0, none⟩) hrB _⟩, g2.far (by show s ≠ r; exact hne2) _, hne, hrB, hsB, by simpa [World.setCell] using g5, ?_⟩, fun base b1 b2 b3 => (g4 base b1 b2 b3).setCell (p := ⟨r, 0, none⟩) b1 _⟩
  have := HF.out
  rwa [HD.out] at this
end Go.Proofs.YtigclopkoolocaaDoor
