/-
  The document's own device (scullionref3): Words. No conditions but what a device is.
-/
import Derived.Test.YtejhdmpobaffcaaRef4
namespace Go.Proofs.Ytejhdmpobaffcaa
open Go.RowKit Go.Flo
set_option maxRecDepth 100000

/-- The words of the first i lines. -/
def upTo (n i : Nat) : Nat := min (8 * i) n

theorem own_keptR {w w' : World} {B n : Nat} {v : Value} {e : TypeId} {xs : List Value} (h : w.ownsRow B e 1 v n xs) (hg : w.grownBy w' v.ownBlock) {w0 : World} (hk : Keep [] w0 w) (hB : w0.heap.size ≤ B) : Keep [] w0 w' :=
  ⟨hg.os.trans hk.os, hg.tape.trans hk.tape, hg.output.trans hk.output, Nat.le_trans hk.size hg.size, fun k hk' _ => by
    rw [hg.block k (Nat.lt_of_lt_of_le hk' hk.size) (fun e' => by have := (h.lt k e'.symm).1; omega)]
    exact hk.block k hk' (by simp)⟩

def RWordsRel (w : World) (S : St) (B : Nat) (x y : Value) (wr : World) : Prop :=
  ∃ i : Nat, x = .int .i64 i ∧ i ≤ nl S.n ∧ wr.ownsRow B 44 1 y (upTo S.n i) (rowR (upTo S.n i) S.sure) ∧ Keep [] w wr

theorem rowR_append (n k : Nat) (f : Nat → Int) : rowR n f ++ rowR k (fun j => f (n + j)) = rowR (n + k) f := by
  unfold rowR
  apply List.ext_getElem?
  intro j
  by_cases h1 : j < n
  · rw [List.getElem?_append_left (by simpa using h1)]
    simp [h1, show j < n + k by omega]
  · rw [List.getElem?_append_right (by simpa using h1)]
    by_cases h2 : j - n < k
    · simp [h2, show j < n + k by omega]
      unfold u64
      dsimp only
      rw [show n + (j - n) = j by omega]
    · simp [h2, show ¬ j < n + k by omega]

def RWordsPost (S : St) (w : World) (e : Ending) (w' : World) : Prop := ∃ v, e = .returned v ∧ w'.ownsRow w.heap.size 44 1 v S.n (rowR S.n S.sure) ∧ Keep [] w w'

set_option maxHeartbeats 2000000 in
theorem rwords_any (w : World) (T : TLoc) (D : List Nat) (S : St) (h : TwinE w T D S) :
    Calls Try.prog 25 #[.pointer (some ⟨T.m, 0, none⟩)] w (RWordsPost S w) := by
  obtain ⟨i0, hi0, hz0, hz1, hz2⟩ := info_parts parts28
  obtain ⟨X, fz, c, hT0⟩ := id h
  have hmx : nl S.n ≤ 65536 := by have := hT0.n; unfold nl; omega
  have hn := hT0.n
  have c1 := hT0.c1
  have hadr := hT0.adr
  have HADR := Lib.hid hadr
  clear hT0 hadr
  go_enter Try.func25, Try.ntmps25
  go_wp2_with fail
  go_loopw [11, 3] (fun x y wr => RWordsRel w S w.heap.size x y wr) (fun x _ _ => nl S.n - (intOf x).toNat)
  case atStart => exact ⟨0, rfl, by omega, by simpa [upTo, rowR] using World.ownsRow_nil w w.heap.size 44 1, Keep.refl _ _⟩
  case round =>
    obtain ⟨i, rfl, hi1, hrow, hK2⟩ := hrel
    have HROW := Lib.hid hrow
    clear hrow
    by_cases hlt : i < nl S.n
    · have hlt' : (i : Int) < ((nl S.n : Nat) : Int) := by omega
      obtain ⟨X2, fz2, c2, hT⟩ := h.keepE hK2
      have hA := HADR.out (by omega)
      have cl0 := hT.lcell hlt (show 0 < 4 by omega)
      have cl1 := hT.lcell hlt (show 1 < 4 by omega)
      have cl2 := hT.lcell hlt (show 2 < 4 by omega)
      have cl3 := hT.lcell hlt (show 3 < 4 by omega)
      have hok := hT.ok i hlt
      obtain ⟨gn, cn, hXn, _, _⟩ := hok.now
      obtain ⟨gs, cs, hXs, hRs, hgs⟩ := hok.sure
      obtain ⟨Aa, na, ca, hXa⟩ := hok.va
      rw [hXn, Nat.add_zero] at cl0
      rw [hXs] at cl1
      rw [hXa] at cl2
      rw [hok.fl] at cl3
      have hb8 : hi S.n i - lo i ≤ 8 := by unfold hi lo; omega
      have hup : upTo S.n (i + 1) = upTo S.n i + (hi S.n i - lo i) := by unfold upTo hi lo; unfold nl at hlt; omega
      have hlo : lo i = upTo S.n i := by unfold upTo lo; unfold nl at hlt; omega
      have hcap : upTo S.n i ≤ 65536 := by unfold upTo; omega
      have hszK := hK2.size
      have HUP := Lib.hid (And.intro hup hlo)
      have HRS := Lib.hid hRs
      clear hup hlo hok hXn hXs hXa hRs hT
      generalize hi S.n i - lo i = HL at *
      rw [hA]
      go_wp2_with (at_builtin; refine wpList_append_own_at _ rfl (.tmp 15) (.tmp 17) 25 rfl w.heap.size 44 i0 (.int .u64 0) 1 8 Try.underlying25 hi0 hz0 hz1 hz2 rfl (by omega) _ (upTo S.n i) (rowR (upTo S.n i) S.sure) rfl (HROW.out.alloc _) ⟨gs, 0, none⟩ HL cs (rowR HL (fun j => S.sure (lo i + j))) rfl ?c1 ?c2 ?c3 ?c4 ?c5 ?c6 ?_)
      case c1 => simpa using rowR_len HL (fun j => S.sure (lo i + j))
      case c2 => exact rowR_cells (HRS.out.keep (own := []) (Keep.alloc _ _) (by simp))
      case c3 => exact rowR_one _ _
      case c4 => simp [maxLen]; omega
      case c5 => omega
      case c6 => simp; omega
      intro v4 w4 hown4 hgrow4 _ _
      have hoA := HROW.out.alloc (.cells #[.slice (some ⟨gn, 0, none⟩) HL cn, .slice (some ⟨gs, 0, none⟩) HL cs, .slice Aa na ca, .bool (S.fl i)] 87)
      have hk4 : Keep [] w w4 := own_keptR hoA hgrow4 (hK2.trans (Keep.alloc _ _)) (Nat.le_refl _)
      have hrow' : w4.ownsRow w.heap.size 44 1 v4 (upTo S.n (i + 1)) (rowR (upTo S.n (i + 1)) S.sure) := by
        obtain ⟨e1, e2⟩ := HUP.out
        rw [e1, ← rowR_append, ← e2]
        rw [← e2] at hown4
        exact hown4
      have HR4 := Lib.hid hrow'
      clear hown4 hgrow4 hoA hrow'
      go_wp2_with fail
      exact ⟨⟨i + 1, by go_num, by omega, HR4.out, hk4⟩, by simp [intOf]; omega⟩
    · have hlt' : ¬ (i : Int) < ((nl S.n : Nat) : Int) := by omega
      obtain rfl : i = nl S.n := by omega
      have hup : upTo S.n (nl S.n) = S.n := by unfold upTo nl; omega
      have HUP := Lib.hid hup
      clear hup
      go_wp2
      go_ret
      refine ⟨_, rfl, ?_, hK2⟩
      have := HROW.out
      rw [HUP.out] at this
      exact this
end Go.Proofs.Ytejhdmpobaffcaa
