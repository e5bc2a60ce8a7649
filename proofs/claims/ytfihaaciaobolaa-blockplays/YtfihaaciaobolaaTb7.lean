/-
  Package block: entries. No conditions but what a table and a map are.
-/
import Derived.Test.YtfihaaciaobolaaTb6
import Derived.Test.YtfihaaciaobolaaSrc7
import Derived.Deep.AppendLies
import Derived.Deep.RegionLaw
import Derived.LoopN
namespace Go.Proofs.Ytfihaaciaobolaa
open Go.RowKit Go.Flo Go.Bit Go.Bmp
set_option maxRecDepth 100000

theorem ent_skip {N : Nat → Bool} {k : Nat} (h : pack N k = 0) (b : Nat) (U : Nat → Bool) : enC N (k + 1) = enC N k ∧ enE b N U (k + 1) = enE b N U k := by
  refine ⟨?_, ?_⟩
  · show (if _ then _ else _) = _
    rw [if_pos h]
  · funext j
    show (if _ then _ else _) = _
    rw [if_neg (by simp [h])]

theorem ent_more {N : Nat → Bool} {k : Nat} (h : pack N k ≠ 0) (b : Nat) (U : Nat → Bool) : enC N (k + 1) = enC N k + 1 ∧ entsR (enE b N U (k + 1)) (enC N k + 1) = entsR (enE b N U k) (enC N k) ++ [.int .i64 (b + k : Nat), .int .u64 (pack U k : Nat)] := by
  refine ⟨?_, ?_⟩
  · show (if _ then _ else _) = _
    rw [if_neg h]
  · show entsR (enE b N U (k + 1)) (enC N k) ++ _ = _
    have e1 : enE b N U (k + 1) (enC N k) = ⟨(b + k : Nat), (pack U k : Nat)⟩ := by
      show (if _ then _ else _) = _
      rw [if_pos ⟨h, rfl⟩]
    rw [e1, entsR_congr (E' := enE b N U k) (fun j hj => by
      show (if _ then _ else _) = _
      rw [if_neg (by omega)])]

/-- One entry more, at a step of a region that draws. -/
theorem step_ent {ops : Array Oper} {o : Oper} {a : Act} {w : World} {K : Act → World → Prop} {Q : Exit → Act → World → Prop} {E : Prop} (hgd : o.guard = none)
    (ho : o.op = .call { callee := .builtin .append, args := #[.tmp 18, .tmp 32], argTypes := #[51, 51] }) {wr : World} {B n H : Nat} {v : Value} {xs : List Value} {x y : Int}
    (hrow : wr.ownsRow B 66 2 v n xs) (hB : B ≤ wr.heap.size) (hn : n ≤ 65536) (hs : a.eval (.tmp 18) = v) (hx : a.eval (.tmp 32) = .slice (some ⟨H, 0, none⟩) 1 1) (hH : H = wr.heap.size)
    (hw : w.heap = (wr.alloc (.cells #[.int .i64 x, .int .u64 y] 66)).heap) (hos : w.os = wr.os) (htp : w.tape = wr.tape) (hou : w.output = wr.output)
    (h : ∀ g cap w', w'.ownsRow B 66 2 (.slice (some ⟨g, 0, none⟩) (n + 1) cap) (n + 1) (xs ++ [.int .i64 x, .int .u64 y]) → (∀ w0, Keep [] w0 wr → w0.heap.size ≤ B → Keep [] w0 w') → K (a.put o.dst (.slice (some ⟨g, 0, none⟩) (n + 1) cap)) w') :
    if Region.wanted o (yielded ops a.tmps) = true then Oper.wp Try.prog o a w K Q else E := by
  obtain ⟨j0, hj0, hy0, hy1, hy2⟩ := info_parts parts46
  have hsz : w.heap.size = wr.heap.size + 1 := by rw [hw]; simp
  have kk : Keep [] wr w := ⟨hos, htp, hou, by omega, fun k hk _ => by
    rw [hw]
    exact Below.heap_alloc _ _ _ hk⟩
  have hrow' : w.ownsRow B 66 2 v n xs := ownsRow_keep hrow kk (by simp)
  have hnews : ∀ j u, [Value.int .i64 x, .int .u64 y][j]? = some u → w.cell? ((⟨H, 0, none⟩ : Addr).add j) = some u := by
    intro j u hu
    have := ents_new wr ⟨x, y⟩ H hH ⟨H, 0, none⟩ rfl j u hu
    unfold World.cell? at this ⊢
    rw [hw]
    exact this
  refine step_append_lies w hgd (.tmp 18) (.tmp 32) 51 ho B 66 j0 (.agg #[.int .i64 0, .int .u64 0]) 2 16 Try.underlying51 hj0 hy0 hy1 hy2 rfl (by omega) v n xs hs hrow' ⟨H, 0, none⟩ 1 1 _ hx rfl hnews (by intro u hu; simp at hu; rcases hu with rfl | rfl <;> rfl) (by omega) (by unfold maxLen; omega) (by omega) (by omega) _ rfl ?_
  intro g cap w' hown hgrow _ _
  refine h g cap w' hown (fun w0 hk0 hw0 => ?_)
  exact (hk0.trans kk).since (Keep.grown (own := v.ownBlock.toList) hgrow (fun k _ e => by simp [e])) (fun k hk => by
    simp at hk
    have := (hrow.lt k hk).1
    omega)

/-- Entries in a block that was not there. -/
def EntsPost (base : Nat) (N U : Nat → Bool) (K : Nat) (w : World) (e : Ending) (w' : World) : Prop :=
  ∃ A cap, e = .returned (.slice A (enC N K) cap) ∧ Ents w' [] A (enC N K) cap (enE base N U K) ∧ (0 < enC N K → ∃ g, A = some ⟨g, 0, none⟩ ∧ w.heap.size ≤ g) ∧ Keep [] w w'

def EnRel (w1 : World) (base : Nat) (N U : Nat → Bool) (K : Nat) (x y : Value) (wr : World) : Prop :=
  ∃ k : Nat, k ≤ K ∧ x = .int .i64 k ∧ wr.ownsRow w1.heap.size 66 2 y (enC N k) (entsR (enE base N U k) (enC N k)) ∧ Keep [] w1 wr

set_option maxHeartbeats 800000 in
theorem entries_any {w : World} {L : TLoc} {C : Cf} {U T N : Nat → Bool} (h : Tbl w L C U T) (ok : C.Ok) (LN : MLoc) (hN : Mp w LN C.all N) :
    Calls Try.prog 67 #[.pointer (some ⟨L.t, 0, none⟩), .pointer (some ⟨LN.m, 0, none⟩)] w (EntsPost C.bits N U (nw C.all) w) := by
  have hws := mwords_any hN
  have hall := ok.all_le
  have hbl := ok.bits_le
  have hnw : nw C.all ≤ 32 := by unfold nw; omega
  go_enter Try.func67, Try.ntmps67
  go_wp2_with fail
  (with_reducible refine hws.mono ?_)
  rintro e w1 ⟨g, cap, rfl, hr, hg, k1⟩
  have h1 := h.keep0 k1
  have HT := Lib.hid h1
  have HR := Lib.hid hr
  have hs1 := k1.size
  have HK := Lib.hid k1
  clear hws hr h h1 hN k1
  go_wp2_with fail
  go_loopw [11, 5] (fun x y wr => EnRel w1 C.bits N U (nw C.all) x y wr) (fun x _ _ => nw C.all - (intOf x).toNat)
  case atStart => exact ⟨0, by omega, rfl, World.ownsRow_nil _ _ _ _, Keep.refl _ _⟩
  case round =>
    obtain ⟨k, hk, rfl, hrow, hkr⟩ := hrel
    have hec := enC_le N k
    by_cases hlt : k < nw C.all
    · have hlt' : (k : Int) < (nw C.all : Nat) := by omega
      have h64 : 64 * k < C.all := by unfold nw at hlt; omega
      have hc : wr.cell? ⟨g, k, none⟩ = some (.int .u64 (pack N k : Nat)) := (HR.out.keep hkr (by simp)).cell hlt
      by_cases hp : pack N k = 0
      · obtain ⟨e1, e2⟩ := ent_skip hp C.bits U
        rw [hp] at hc
        have hrow2 : wr.ownsRow w1.heap.size 66 2 u5 (enC N (k + 1)) (entsR (enE C.bits N U (k + 1)) (enC N (k + 1))) := by rw [e1, e2]; exact hrow
        have HF := Lib.hid hrow2
        clear hrow hrow2 e1 e2 hp
        go_wp2
        go_roundw
        case rel => exact ⟨k + 1, by omega, by go_num, HF.out, hkr⟩
        case measure => simp [intOf]; omega
      · obtain ⟨e1, e2⟩ := ent_more hp C.bits U
        have HE := Lib.hid (And.intro e1 e2)
        have hbt : ∀ W, Keep [] wr W → Calls Try.prog 36 #[.pointer (some ⟨L.t, 0, none⟩), .int .i64 ((k : Int) * 64)] W fun e w' => e = .returned (.int .i64 (C.bits + k : Nat)) ∧ W = w' := fun W hW => by
          have := bits_c ((HT.out.keep0 (hkr.trans hW)).lc) ok (k * 64) (by omega)
          rw [show k * 64 / 64 = k by omega] at this
          rwa [show ((k * 64 : Nat) : Int) = (k : Int) * 64 by omega] at this
        have hwd : ∀ W, Keep [] wr W → Calls Try.prog 70 #[.pointer (some ⟨L.u.m, 0, none⟩), .int .i64 k] W fun e w' => e = .returned (.int .u64 (pack U k : Nat)) ∧ W = w' := fun W hW => by
          have := mword_any ((HT.out.keep0 (hkr.trans hW)).used) (k : Int)
          rwa [gw_nat] at this
        have hcu := (HT.out.keep0 hkr).cu
        have hks := hkr.size
        have HB := Lib.hid hbt
        have HW := Lib.hid hwd
        have HO := Lib.hid hrow
        have hpz : ¬ ((pack N k : Nat) : Int) = 0 := by omega
        generalize pack N k = p at *
        generalize pack U k = q at *
        obtain ⟨bb, hbb⟩ : ∃ bb : Nat, C.bits + k = bb := ⟨_, rfl⟩
        rw [hbb] at HB HE
        generalize enC N k = c at *
        generalize entsR (enE C.bits N U k) c = xs at *
        have hwr : IntKind.i64.wrap ((k : Int) * 64) = (k : Int) * 64 := by rw [IntKind.wrap_i64]; omega
        clear hbt hwd hrow hp e1 e2 hbb
        go_wp2_with fail
        go_region_law (first
          | (refine step_ent rfl rfl HO.out hks (by omega) (by simp [Act.eval, Act.put]) (by simp [Act.eval, Act.put]) rfl rfl rfl rfl rfl ?_; intro g2 cap2 w9 hown9 hk9)
          | (go_simp; go_at_call 36; with_reducible refine (HB.out _ (by repeat (first | (with_reducible refine Keep.trans ?_ (Keep.drew _)) | exact Keep.refl _ _ | exact Keep.dr (Dr.drewN _ _)))).mono ?_; rintro e w' ⟨rfl, rfl⟩)
          | (go_simp; go_at_call 70; with_reducible refine (HW.out _ (by repeat (first | (with_reducible refine Keep.trans ?_ (Keep.drew _)) | exact Keep.refl _ _ | exact Keep.dr (Dr.drewN _ _)))).mono ?_; rintro e w' ⟨rfl, rfl⟩))
        all_goals
          go_wp2_with fail
          go_roundw
          case rel => exact ⟨k + 1, by omega, by go_num, by rw [HE.out.1, HE.out.2]; exact hown9, hk9 _ hkr (Nat.le_refl _)⟩
          case measure => simp [intOf]; omega
    · obtain rfl : k = nw C.all := by omega
      obtain ⟨A, cp, rfl, hE, hEg⟩ := Ents.of_owns hrow
      have HF := Lib.hid (And.intro hE hEg)
      clear hrow hE hEg
      go_wp2
      go_ret
      exact ⟨A, cp, rfl, HF.out.1, fun h0 => by
        obtain ⟨g, e1, e2, _⟩ := HF.out.2 h0
        exact ⟨g, e1, by omega⟩, HK.out.trans hkr⟩
end Go.Proofs.Ytfihaaciaobolaa
