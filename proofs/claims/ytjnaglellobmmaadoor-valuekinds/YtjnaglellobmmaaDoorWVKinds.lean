/-
  The law on which kind of field a value's words fit, and that what is told of words is told back, walked. Conditions: what is in memory, what the library's tables hold.
-/
import Derived.Test.YtjnaglellobmmaaDoorVal5
namespace Go.Proofs.YtjnaglellobmmaaDoor
open Go.RowKit Go.Flo
set_option maxRecDepth 100000

/-- The one kind of field that a value may fit. -/
def kindN (K : Int) : Int := if K = 1 then 1 else if K = 2 then 2 else 3

theorem words_kind {k : Int} {v : Val} (h : (wordsV k v).isSome = true) : k = kindN v.K := by
  unfold wordsV at h
  unfold kindN
  split at h
  · rename_i e; rw [if_pos e.2]; exact e.1
  split at h
  · rename_i e; rw [if_neg (by omega), if_pos e.2]; exact e.1
  split at h
  · rename_i e; rw [if_neg (by omega), if_neg (by omega)]; exact e.1
  split at h
  · rename_i e; rw [if_neg (by omega), if_neg (by omega)]; exact e.1
  · cases h

theorem fwd64 {x : Int} (h0 : 0 ≤ x) (h1 : x < 18446744073709551616) : IntKind.u64.wrap (wrap64 x) = x := by
  simp [IntKind.wrap, IntKind.bits, IntKind.signed]
  unfold wrap64
  omega

/-- What is told of words is told back. -/
theorem words_back {kind : Int} {l : List Int} {V : Val} (hl : ∀ x ∈ l, 0 ≤ x ∧ x < 18446744073709551616) (h : ofV kind l = some V) : wordsV kind V = some l := by
  revert hl h
  match l with
  | [] => intro hl h; cases h
  | [x] =>
    intro hl h
    have hx := hl x (by simp)
    rw [ofV_one] at h
    by_cases e1 : kind = 1
    · rw [if_pos e1] at h
      injection h with h
      subst h e1
      unfold wordsV
      rw [if_pos ⟨rfl, rfl⟩, fwd64 hx.1 hx.2]
    rw [if_neg e1] at h
    by_cases e3 : kind = 3
    case neg => rw [if_neg e3] at h; cases h
    rw [if_pos e3] at h
    subst e3
    by_cases e0 : x = 0
    · rw [if_pos e0] at h
      injection h with h
      subst h e0
      rfl
    rw [if_neg e0] at h
    by_cases e4 : x ≤ 1099511627777
    case neg => rw [if_neg e4] at h; cases h
    rw [if_pos e4] at h
    injection h with h
    subst h
    unfold wordsV
    dsimp only
    rw [if_neg (by omega), if_neg (by omega), if_neg (by omega), if_pos ⟨rfl, rfl, by omega, by omega⟩, show x - 1 + 1 = x by omega]
  | [x, y] =>
    intro hl h
    rw [ofV_two] at h
    by_cases e2 : kind = 2
    case neg => rw [if_neg e2] at h; cases h
    rw [if_pos e2] at h
    injection h with h
    subst h e2
    rfl
  | x :: y :: z :: r => intro hl h; cases h

/-- The first loop's relation: how many kinds fit so far, and the next one. -/
def KindRel (K : Int) (wb : World) (x y : Value) (wr : World) : Prop :=
  ∃ m k : Int, x = .int .i64 m ∧ y = .int .i64 k ∧ -1 ≤ k ∧ k ≤ 6 ∧ 0 ≤ m ∧ m ≤ 1 ∧ (k ≤ kindN K → m = 0) ∧ Keep [] wb wr

def SlP (b : Bool) (w : World) (e : Ending) (w' : World) : Prop := ∃ A c, e = .returned (.tuple #[.slice A c c, .bool b]) ∧ Keep [] w w'
def SlL (l : List Int) (w : World) (e : Ending) (w' : World) : Prop := ∃ A, e = .returned (.tuple #[.slice A l.length l.length, .bool true]) ∧ Wd w' A l ∧ Keep [] w w'

set_option maxHeartbeats 4000000 in
theorem kinds_none (w : World) (K n p q r : Int) (A : Option Addr) (cap : Nat) (l : List Int) (kind : Int) (hA : Wd w A l) (hl : ∀ x ∈ l, 0 ≤ x ∧ x < 18446744073709551616) (hlc : l.length ≤ cap) (hcm : cap ≤ 9223372036854775807) (hT : Tabs w) (ho : ofV kind l = none) :
    Calls Tryd.prog 8 #[.agg #[.int .i64 K, .int .i64 n, .int .u64 p, .int .u64 q, .int .i64 r], .slice A l.length cap, .int .i64 kind] w fun e w' => e = .returned (.bool true) ∧ Keep [] w w' := by
  have kb : Keep [] w (w.alloc (.cells #[.int .i64 K, .int .i64 n, .int .u64 p, .int .u64 q, .int .i64 r] 24)) := Keep.alloc _ _
  have hB := Blk.new w 24 #[.int .i64 K, .int .i64 n, .int .u64 p, .int .u64 q, .int .i64 r]
  have hAw := fun W (hk : Keep [] w W) => awake10_any W (hT.keep hk)
  have HB := Lib.hid (And.intro hB kb)
  have HA := Lib.hid hAw
  clear hB kb hAw hT
  have hO := fun W (hk : Keep [] w W) => vof_any kind A cap l hl hlc hcm W (hA.keep hk)
  rw [ho] at hO
  unfold OPost at hO
  simp only [Option.getD_none, Option.isSome_none] at hO
  have HO := Lib.hid hO
  clear hO hA hl hlc hcm ho
  generalize l.length = len at *
  go_enter Tryd.func8, Tryd.ntmps8
  go_wp2
  go_loopw [7, 8] (fun x y wr => KindRel K (w.alloc (.cells #[.int .i64 K, .int .i64 n, .int .u64 p, .int .u64 q, .int .i64 r] 24)) x y wr) (fun _ y _ => (6 - RowKit.intOf y).toNat)
  case atStart => exact ⟨0, -1, rfl, rfl, by omega, by omega, by omega, by omega, fun _ => rfl, Keep.refl _ _⟩
  case round =>
  obtain ⟨m, k, rfl, rfl, hk0, hk1, hm0, hm1, hmk, hK⟩ := hrel
  by_cases hlt : k ≤ 5
  case pos =>
    have hb := HB.out.1.keep hK (by simp)
    have y0 := (hb.cell 0).trans (show _ = some (Value.int .i64 K) from rfl)
    have y1 := (hb.cell 1).trans (show _ = some (Value.int .i64 n) from rfl)
    have y2 := (hb.cell 2).trans (show _ = some (Value.int .u64 p) from rfl)
    have y3 := (hb.cell 3).trans (show _ = some (Value.int .u64 q) from rfl)
    have y4 := (hb.cell 4).trans (show _ = some (Value.int .i64 r) from rfl)
    have hW : ∀ W, Calls Tryd.prog 20 #[.int .i64 k, .agg #[.int .i64 K, .int .i64 n, .int .u64 p, .int .u64 q, .int .i64 r]] W (SlP (wordsV k ⟨K, n, p, q, r⟩).isSome W) := fun W => (vwords_any k K n p q r W).mono fun e w' h => by
      obtain ⟨A, he, _, hk⟩ := h
      exact ⟨A, _, he, hk⟩
    unfold SlP at hW
    cases hi : (wordsV k ⟨K, n, p, q, r⟩).isSome
    · rw [hi] at hW
      have HK := Lib.hid (And.intro hmk hK)
      clear hi hmk hK hb
      go_wp2_with fail
      (with_reducible refine (hW _).mono ?_)
      rintro e w2 ⟨A2, c2, rfl, k2⟩
      clear hW y0 y1 y2 y3 y4
      go_wp2
      go_roundw
      case rel => exact ⟨m, k + 1, rfl, by go_num, by omega, by omega, hm0, hm1, fun h => HK.out.1 (by omega), HK.out.2.trans k2⟩
      case measure => simp [RowKit.intOf]; omega
    · have hkn := words_kind hi
      obtain rfl : m = 0 := hmk (by rw [hkn]; exact Int.le_refl _)
      rw [hi] at hW
      have HK := Lib.hid (And.intro hkn hK)
      clear hi hmk hK hb hkn
      go_wp2_with fail
      (with_reducible refine (hW _).mono ?_)
      rintro e w2 ⟨A2, c2, rfl, k2⟩
      clear hW y0 y1 y2 y3 y4
      go_wp2
      go_roundw
      case rel => exact ⟨1, k + 1, rfl, by go_num, by omega, by omega, by omega, by omega, fun h => absurd h (by have : k = kindN K := HK.out.1; omega), HK.out.2.trans k2⟩
      case measure => simp [RowKit.intOf]; omega
  clear hmk
  go_wp2_with fail
  (with_reducible refine (HO.out _ (HB.out.2.trans hK)).mono ?_)
  rintro e w2 ⟨rfl, k2⟩
  have kc : Keep [] w2 (w2.alloc (.cells #[.int .i64 z0.K, .int .i64 z0.n, .int .u64 z0.p, .int .u64 z0.q, .int .i64 z0.r] 24)) := Keep.alloc _ _
  have KA := ((HB.out.2.trans hK).trans k2).trans kc
  clear HO k2 kc hK
  go_wp2_with fail
  (with_reducible refine (HA.out _ KA).mono ?_)
  rintro e w3 ⟨rfl, k3⟩
  go_wp2
  go_ret
  exact ⟨rfl, KA.trans k3⟩

set_option maxHeartbeats 4000000 in
theorem kinds_some (w : World) (K n p q r : Int) (A : Option Addr) (cap : Nat) (l : List Int) (kind : Int) (hA : Wd w A l) (hl : ∀ x ∈ l, 0 ≤ x ∧ x < 18446744073709551616) (hlc : l.length ≤ cap) (hcm : cap ≤ 9223372036854775807) (hT : Tabs w) (a0 a1 a2 a3 a4 : Int) (ho : ofV kind l = some ⟨a0, a1, a2, a3, a4⟩) :
    Calls Tryd.prog 8 #[.agg #[.int .i64 K, .int .i64 n, .int .u64 p, .int .u64 q, .int .i64 r], .slice A l.length cap, .int .i64 kind] w fun e w' => e = .returned (.bool true) ∧ Keep [] w w' := by
  have kb : Keep [] w (w.alloc (.cells #[.int .i64 K, .int .i64 n, .int .u64 p, .int .u64 q, .int .i64 r] 24)) := Keep.alloc _ _
  have hB := Blk.new w 24 #[.int .i64 K, .int .i64 n, .int .u64 p, .int .u64 q, .int .i64 r]
  have hAw := fun W (hk : Keep [] w W) => awake10_any W (hT.keep hk)
  have HB := Lib.hid (And.intro hB kb)
  have HA := Lib.hid hAw
  clear hB kb hAw hT
  have hO := fun W (hk : Keep [] w W) => vof_any kind A cap l hl hlc hcm W (hA.keep hk)
  rw [ho] at hO
  unfold OPost at hO
  simp only [Option.getD_some, Option.isSome_some] at hO
  have hW2 : ∀ W, Calls Tryd.prog 20 #[.int .i64 kind, .agg #[.int .i64 a0, .int .i64 a1, .int .u64 a2, .int .u64 a3, .int .i64 a4]] W (SlL l W) := fun W => (vwords_any kind a0 a1 a2 a3 a4 W).mono fun e w' h => by
    rw [words_back hl ho] at h
    exact h
  have HO := Lib.hid hO
  have HAl := Lib.hid hA
  obtain ⟨len, hlen⟩ : ∃ len, l.length = len := ⟨_, rfl⟩
  have hll := hA.len
  unfold SlL at hW2
  have HL := Lib.hid hlen
  rw [hlen] at hlc hll hW2 hO ⊢
  rw [hlen] at HO
  clear hO hA hl ho hlen
  go_enter Tryd.func8, Tryd.ntmps8
  go_wp2
  go_loopw [7, 8] (fun x y wr => KindRel K (w.alloc (.cells #[.int .i64 K, .int .i64 n, .int .u64 p, .int .u64 q, .int .i64 r] 24)) x y wr) (fun _ y _ => (6 - RowKit.intOf y).toNat)
  case atStart => exact ⟨0, -1, rfl, rfl, by omega, by omega, by omega, by omega, fun _ => rfl, Keep.refl _ _⟩
  case round =>
  obtain ⟨m, k, rfl, rfl, hk0, hk1, hm0, hm1, hmk, hK⟩ := hrel
  by_cases hlt : k ≤ 5
  case pos =>
    have hb := HB.out.1.keep hK (by simp)
    have y0 := (hb.cell 0).trans (show _ = some (Value.int .i64 K) from rfl)
    have y1 := (hb.cell 1).trans (show _ = some (Value.int .i64 n) from rfl)
    have y2 := (hb.cell 2).trans (show _ = some (Value.int .u64 p) from rfl)
    have y3 := (hb.cell 3).trans (show _ = some (Value.int .u64 q) from rfl)
    have y4 := (hb.cell 4).trans (show _ = some (Value.int .i64 r) from rfl)
    have hW : ∀ W, Calls Tryd.prog 20 #[.int .i64 k, .agg #[.int .i64 K, .int .i64 n, .int .u64 p, .int .u64 q, .int .i64 r]] W (SlP (wordsV k ⟨K, n, p, q, r⟩).isSome W) := fun W => (vwords_any k K n p q r W).mono fun e w' h => by
      obtain ⟨A, he, _, hk⟩ := h
      exact ⟨A, _, he, hk⟩
    unfold SlP at hW
    cases hi : (wordsV k ⟨K, n, p, q, r⟩).isSome
    · rw [hi] at hW
      have HK := Lib.hid (And.intro hmk hK)
      clear hi hmk hK hb
      go_wp2_with fail
      (with_reducible refine (hW _).mono ?_)
      rintro e w2 ⟨A2, c2, rfl, k2⟩
      clear hW y0 y1 y2 y3 y4
      go_wp2
      go_roundw
      case rel => exact ⟨m, k + 1, rfl, by go_num, by omega, by omega, hm0, hm1, fun h => HK.out.1 (by omega), HK.out.2.trans k2⟩
      case measure => simp [RowKit.intOf]; omega
    · have hkn := words_kind hi
      obtain rfl : m = 0 := hmk (by rw [hkn]; exact Int.le_refl _)
      rw [hi] at hW
      have HK := Lib.hid (And.intro hkn hK)
      clear hi hmk hK hb hkn
      go_wp2_with fail
      (with_reducible refine (hW _).mono ?_)
      rintro e w2 ⟨A2, c2, rfl, k2⟩
      clear hW y0 y1 y2 y3 y4
      go_wp2
      go_roundw
      case rel => exact ⟨1, k + 1, rfl, by go_num, by omega, by omega, by omega, by omega, fun h => absurd h (by have : k = kindN K := HK.out.1; omega), HK.out.2.trans k2⟩
      case measure => simp [RowKit.intOf]; omega
  clear hmk
  go_wp2_with fail
  (with_reducible refine (HO.out _ (HB.out.2.trans hK)).mono ?_)
  rintro e w2 ⟨rfl, k2⟩
  have kc : Keep [] w2 (w2.alloc (.cells #[.int .i64 a0, .int .i64 a1, .int .u64 a2, .int .u64 a3, .int .i64 a4] 24)) := Keep.alloc _ _
  have KA := ((HB.out.2.trans hK).trans k2).trans kc
  clear HO k2 kc hK
  go_wp2_with fail
  (with_reducible refine (hW2 _).mono ?_)
  rintro e w3 ⟨A1, rfl, hA1, k3⟩
  clear hW2
  have K3 := KA.trans k3
  have HA1 := Lib.hid hA1
  have HA0 := Lib.hid (HAl.out.keep K3)
  clear hA1 HAl KA k3 HB
  go_wp2
  generalize wr = wo at *
  go_loopw [53] (fun x wr => ∃ j : Nat, j ≤ len ∧ x = .int .i64 j ∧ Dr w3 wr) (fun x _ => len - (RowKit.intOf x).toNat)
  case atStart => exact ⟨0, by omega, rfl, Dr.refl _⟩
  case round =>
    obtain ⟨j, hj, rfl, hd⟩ := hrel
    obtain ⟨m', rfl⟩ := hd
    by_cases hlt : j < len
    · obtain ⟨b, o, rfl, _, hc⟩ := HA1.out.cells (by rw [HL.out]; omega)
      obtain ⟨b', o', rfl, _, hc'⟩ := HA0.out.cells (by rw [HL.out]; omega)
      have ca := hc j (by rw [HL.out]; exact hlt)
      have cb := hc' j (by rw [HL.out]; exact hlt)
      obtain ⟨y, hy⟩ : ∃ y : Int, y = l.getD j 0 := ⟨_, rfl⟩
      rw [← hy] at ca cb
      clear hy hc hc'
      go_wp2
      go_quiet (fail)
      go_wp2
      go_roundw
      case rel => exact ⟨j + 1, by omega, by go_num, Dr.drewN _ _⟩
      case measure => simp [RowKit.intOf]; omega
    · have hjk : j = len := by omega
      subst hjk
      have K4 : Keep [] w (w3.drewN m') := K3.trans (Keep.dr (Dr.drewN _ _))
      go_wp2_with fail
      (with_reducible refine (HA.out _ K4).mono ?_)
      rintro e w4 ⟨rfl, k4⟩
      go_wp2
      go_ret
      exact ⟨rfl, K4.trans k4⟩

theorem walk_vkinds (w : World) (K n p q r : Int) (A : Option Addr) (cap : Nat) (l : List Int) (kind : Int) (hA : Wd w A l) (hl : ∀ x ∈ l, 0 ≤ x ∧ x < 18446744073709551616) (hlc : l.length ≤ cap) (hcm : cap ≤ 9223372036854775807) (hT : Tabs w) :
    Calls Tryd.prog 8 #[.agg #[.int .i64 K, .int .i64 n, .int .u64 p, .int .u64 q, .int .i64 r], .slice A l.length cap, .int .i64 kind] w fun e w' => e = .returned (.bool true) ∧ Keep [] w w' := by
  cases ho : ofV kind l with
  | none => exact kinds_none w K n p q r A cap l kind hA hl hlc hcm hT ho
  | some V =>
    obtain ⟨a0, a1, a2, a3, a4⟩ := V
    exact kinds_some w K n p q r A cap l kind hA hl hlc hcm hT a0 a1 a2 a3 a4 ho
end Go.Proofs.YtjnaglellobmmaaDoor
