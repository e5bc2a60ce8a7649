/-
  The calls of package nvm's device, each with what it answers and what it makes of the device. No conditions but what a device is, and that few steps are counted.
-/
import Derived.Test.YtejhdmpobaffcaaDev
namespace Go.Proofs.Ytejhdmpobaffcaa
open Go.RowKit Go.Flo
set_option maxRecDepth 100000

/-- The first l lines are drained. -/
def drainTo (S : St) (l : Nat) : St := { S with sure := fun i => if i / 8 < l ∧ S.fl (i / 8) = true then S.tk i else S.sure i, fl := fun k => if k < l then false else S.fl k }

/-- All lines are drained. -/
def drainS (S : St) : St := { S with sure := fun i => if S.fl (i / 8) = true then S.tk i else S.sure i, fl := fun _ => false }

theorem drainTo_zero {w : World} {L : Loc} {S : St} (h : Dev w L S) : Dev w L (drainTo S 0) :=
  h.congr rfl rfl rfl rfl (fun i _ => rfl) (fun i _ => by simp [drainTo]) (fun i _ => rfl) (fun i _ => by simp [drainTo])

theorem drainTo_all {w : World} {L : Loc} {S : St} (h : Dev w L (drainTo S (nl S.n))) : Dev w L (drainS S) :=
  h.congr rfl rfl rfl rfl (fun i _ => rfl) (fun i hi => by
    have : i / 8 < nl S.n := by unfold nl; dsimp only [drainTo] at hi; omega
    simp [drainTo, drainS, this]) (fun i _ => rfl) (fun i hi => by
    dsimp only [drainTo] at hi
    simp [drainTo, drainS, hi])

theorem drainTo_next {w : World} {L : Loc} {S : St} {l : Nat} (hf : S.fl l = true) (h : Dev w L (secureS (drainTo S l) l S.tk)) : Dev w L (drainTo S (l + 1)) :=
  h.congr rfl rfl rfl rfl (fun i _ => rfl) (fun i _ => by
    by_cases h1 : 8 * l ≤ i ∧ i < 8 * l + 8
    · have e : i / 8 = l := by omega
      simp [secureS, drainTo, h1, e, hf]
    · have e : ¬ i / 8 = l := by omega
      have e2 : i / 8 < l + 1 ↔ i / 8 < l := by omega
      simp [secureS, drainTo, h1, e2]) (fun i _ => rfl) (fun i _ => by
    by_cases h1 : i = l
    · simp [secureS, drainTo, h1]
    · have e : i < l + 1 ↔ i < l := by omega
      simp [secureS, drainTo, h1, e])

theorem drainTo_skip {w : World} {L : Loc} {S : St} {l : Nat} (hf : S.fl l = false) (h : Dev w L (drainTo S l)) : Dev w L (drainTo S (l + 1)) :=
  h.congr rfl rfl rfl rfl (fun i _ => rfl) (fun i _ => by
    by_cases h1 : i / 8 = l
    · simp [drainTo, h1, hf]
    · have e2 : i / 8 < l + 1 ↔ i / 8 < l := by omega
      simp [drainTo, e2]) (fun i _ => rfl) (fun i _ => by
    by_cases h1 : i = l
    · simp [drainTo, h1, hf]
    · have e : i < l + 1 ↔ i < l := by omega
      simp [drainTo, e])

def DrainJ (w : World) (L : Loc) (S : St) (a' : Act) (w' : World) : Prop :=
  Dev w' L (drainTo S (slotNat 2 a')) ∧ Keep L.own w w' ∧ ∃ (l : Nat) (u3 u4 u5 u6 u7 u8 u9 u10 u11 u12 u13 u14 u15 u16 u17 u18 u19 u20 u21 u22 u23 u24 u25 : Value),
    a' = { tmps := #[.pointer (some ⟨L.d, 0, none⟩), undef, .int .i64 l, u3, u4, u5, u6, u7, u8, u9, u10, u11, u12, u13, u14, u15, u16, u17, u18, u19, u20, u21, u22, u23, u24, u25], defers := [] } ∧ l ≤ nl S.n

set_option maxHeartbeats 1000000 in
theorem drain_any (w : World) (L : Loc) (S : St) (h : Dev w L S) :
    Calls Try.prog 62 #[.pointer (some ⟨L.d, 0, none⟩)] w (Did L (drainS S) w (.tuple #[])) := by
  have hn := h.n
  have hm : nl S.n ≤ 65536 := by unfold nl; omega
  go_enter Try.func62, Try.ntmps62
  go_wp2_with fail
  refine wp_scope_round 0 (DrainJ w L S) (fun a' _ => nl S.n - slotNat 2 a') rfl ?_ ?_
  · rintro a' w' ⟨hD, hK, l, u3, u4, u5, u6, u7, u8, u9, u10, u11, u12, u13, u14, u15, u16, u17, u18, u19, u20, u21, u22, u23, u24, u25, rfl, hl⟩
    have es : slotNat 2 { tmps := #[.pointer (some ⟨L.d, 0, none⟩), undef, .int .i64 l, u3, u4, u5, u6, u7, u8, u9, u10, u11, u12, u13, u14, u15, u16, u17, u18, u19, u20, u21, u22, u23, u24, u25], defers := [] } = l := by simp [slotNat]
    rw [es] at hD ⊢
    have c2 := hD.c2
    have c3 := hD.c3
    change w'.cell? _ = some (.slice _ S.n _) at c2
    change w'.cell? _ = some (.slice _ (nl S.n) _) at c3
    by_cases hlt : l = nl S.n
    · have hb : ((l : Int) == ((nl S.n : Nat) : Int)) = true := beq_iff_eq.2 (by omega)
      have hD2 : Dev w' L (drainS S) := drainTo_all (by rw [← hlt]; exact hD)
      clear hlt hD h
      go_wp2_with fail
      apply jump_ret
      go_end0
      exact ⟨rfl, hD2, hK⟩
    · have hlt' : l < nl S.n := by omega
      have hb : ((l : Int) == ((nl S.n : Nat) : Int)) = false := beq_eq_false_iff_ne.2 (by omega)
      have hb2 : (l : Int) < ((nl S.n : Nat) : Int) := by omega
      have cl := hD.f.cell hlt'
      have ht := hD.t
      have efl : bl (drainTo S l).fl l = .bool (S.fl l) := by simp [bl, drainTo]
      rw [efl] at cl
      clear hlt h efl
      cases hf : S.fl l
      · rw [hf] at cl
        have hD2 := drainTo_skip hf hD
        clear hf hD
        go_wp2_with fail
        go_step3
        apply jump_goto
        refine ⟨⟨by simpa [slotNat] using hD2, hK, l + 1, _, _, _, _, _, _, _, _, _, _, _, _, _, _, _, _, _, _, _, _, _, _, _, rfl, by omega⟩, ?_⟩
        simp [slotNat]
        omega
      · rw [hf] at cl
        have HF := Lib.hid hf
        clear hf
        go_wp2_with fail
        have hs := secure_any w' L (drainTo S l) hD l hlt' L.t L.tc S.tk ht
        change Calls Try.prog 70 #[.pointer (some ⟨L.d, 0, none⟩), .int .i64 l, .slice (some ⟨L.t, 0, none⟩) S.n L.tc] w' _ at hs
        (with_reducible refine hs.mono ?_)
        rintro e w2 ⟨rfl, hD2, hK2⟩
        have hD3 := drainTo_next HF.out hD2
        clear hD hD2 c2 c3 cl ht
        go_wp2_with fail
        go_step3
        apply jump_goto
        refine ⟨⟨by simpa [slotNat] using hD3, hK.trans hK2, l + 1, _, _, _, _, _, _, _, _, _, _, _, _, _, _, _, _, _, _, _, _, _, _, _, rfl, by omega⟩, ?_⟩
        simp [slotNat]
        omega
  · intro hfirst
    go_wp2_with fail
    go_step3
    rename_i hK
    exact hK _ _ (hfirst _ _ ⟨by simpa [slotNat] using drainTo_zero h, Keep.refl _ _, 0, _, _, _, _, _, _, _, _, _, _, _, _, _, _, _, _, _, _, _, _, _, _, _, rfl, by omega⟩)

/-- A row of picks that came in, or is left: what lacks is 0. -/
structure Pk (w : World) (own : List Nat) (A : Option Addr) (m c : Nat) (p : Nat → Int) : Prop where
  mc : m ≤ c
  cap : c ≤ 9223372036854775807
  lack : ∀ j, m ≤ j → p j = 0
  cells : 0 < m → ∃ ad : Addr, A = some ad ∧ ad.block ∉ own ∧ ad.block < w.heap.size ∧ ∀ j, j < m → w.cell? (ad.add j) = some (.int .u8 (p j))

theorem add_block (a : Addr) (n : Nat) : (a.add n).block = a.block := by unfold Addr.add; split <;> rfl
theorem add_add' (a : Addr) (i j : Nat) : (a.add i).add j = a.add (i + j) := by
  unfold Addr.add
  by_cases hi : i = 0 <;> by_cases hj : j = 0 <;> simp [hi, hj, Nat.add_assoc]

theorem Pk.keep {w w' : World} {own : List Nat} {A : Option Addr} {m c : Nat} {p : Nat → Int} (h : Pk w own A m c p) (hk : Keep own w w') : Pk w' own A m c p :=
  ⟨h.mc, h.cap, h.lack, fun hm => by
    obtain ⟨ad, e, h1, h2, h3⟩ := h.cells hm
    exact ⟨ad, e, h1, Nat.lt_of_lt_of_le h2 hk.size, fun j hj => (hk.cell (by rw [add_block]; exact h2) (by rw [add_block]; exact h1)).trans (h3 j hj)⟩⟩

theorem Pk.tail0 {w : World} {own : List Nat} {A : Option Addr} {c : Nat} {p : Nat → Int} (h : Pk w own A 0 c p) : Pk w own A 0 c (fun j => p (j + 1)) :=
  ⟨h.mc, h.cap, fun j _ => h.lack _ (by omega), fun hm => absurd hm (by omega)⟩
theorem Pk.tail1 {w : World} {own : List Nat} {ad : Addr} {p : Nat → Int} (h : Pk w own (some ad) 1 1 p) : Pk w own (some ad) 0 0 (fun j => p (j + 1)) :=
  ⟨by omega, by omega, fun j _ => h.lack _ (by omega), fun hm => absurd hm (by omega)⟩
theorem Pk.tail {w : World} {own : List Nat} {ad : Addr} {m c : Nat} {p : Nat → Int} (h : Pk w own (some ad) m c p) (hm : 0 < m) : Pk w own (some (ad.add 1)) (m - 1) (c - 1) (fun j => p (j + 1)) := by
  have h1 := h.mc
  have h2 := h.cap
  refine ⟨by omega, by omega, fun j hj => h.lack _ (by omega), fun _ => ?_⟩
  obtain ⟨ad', e, a1, a2, a3⟩ := h.cells hm
  injection e with e
  subst e
  exact ⟨_, rfl, by rw [add_block]; exact a1, by rw [add_block]; exact a2, fun j hj => by rw [add_add', show 1 + j = j + 1 by omega]; exact a3 _ (by omega)⟩

/-- Bits of a pick. -/
def bit0 (x : Int) : Bool := bits BinOp.and IntKind.u8 x 1 != 0
def bit1 (x : Int) : Bool := bits BinOp.and IntKind.u8 x 2 != 0

/-- By which words a pick makes a line sure. -/
def choose (S : St) (l : Nat) (x : Int) : Nat → Int := if bit0 x then S.now else if bit1 x && S.fl l then S.tk else S.sure

def SettlePost (L : Loc) (S : St) (l : Nat) (p : Nat → Int) (w : World) (e : Ending) (w' : World) : Prop :=
  ∃ (A : Option Addr) (m c : Nat), e = .returned (.slice A m c) ∧ Pk w' L.own A m c (fun j => p (j + 1)) ∧ Dev w' L (secureS S l (choose S l (p 0))) ∧ Keep L.own w w'

/-- Behind the pick: settle's rest, from region 4 on. -/
theorem bit0_zero : bit0 0 = false := by kernel_rfl
theorem bit1_zero : bit1 0 = false := by kernel_rfl

set_option maxHeartbeats 1000000 in
theorem settle_none (w : World) (L : Loc) (S : St) (h : Dev w L S) (l : Nat) (hl : l < nl S.n) (A : Option Addr) (c : Nat) (p : Nat → Int) (hp : Pk w L.own A 0 c p) :
    Calls Try.prog 50 #[.pointer (some ⟨L.d, 0, none⟩), .int .i64 l, .slice A 0 c] w (SettlePost L S l p w) := by
  have c1 := h.c1
  have hs := secure_any w L S h l hl L.s L.sc S.sure h.s
  have p0 : p 0 = 0 := hp.lack 0 (by omega)
  have hc : choose S l (p 0) = S.sure := by simp [choose, p0, bit0_zero, bit1_zero]
  have hp2 := hp.tail0
  have HC := Lib.hid hc
  clear hc hp p0
  go_enter Try.func50, Try.ntmps50
  go_wp2_with fail
  (with_reducible refine hs.mono ?_)
  rintro e w2 ⟨rfl, hD2, hK2⟩
  go_wp2
  go_ret
  exact ⟨A, 0, c, rfl, hp2.keep hK2, by rw [HC.out]; exact hD2, hK2⟩

set_option maxHeartbeats 1000000 in
theorem settle_last (w : World) (L : Loc) (S : St) (h : Dev w L S) (l : Nat) (hl : l < nl S.n) (ad : Addr) (p : Nat → Int) (hp : Pk w L.own (some ad) 1 1 p) :
    Calls Try.prog 50 #[.pointer (some ⟨L.d, 0, none⟩), .int .i64 l, .slice (some ad) 1 1] w (SettlePost L S l p w) := by
  have hp2 := hp.tail1
  obtain ⟨ad', e, h1, h2, h3⟩ := hp.cells (by omega)
  injection e with e
  subst e
  have hm : 0 < 1 := by omega
  clear hp h1 h2
  have e0 : ad.add 0 = ad := by simp [Addr.add]
  have cell := h3 0 hm
  rw [e0] at cell
  have hx : (bits BinOp.and IntKind.u8 (p 0) 1 != 0) = bit0 (p 0) := rfl
  have hy : (bits BinOp.and IntKind.u8 (p 0) 2 != 0) = bit1 (p 0) := rfl
  clear h3 e0
  have c0 := h.c0
  have c1 := h.c1
  have c2 := h.c2
  have c3 := h.c3
  have cl := h.f.cell hl
  change w.cell? _ = some (.bool (S.fl l)) at cl
  have hli : (l : Int) < ((nl S.n : Nat) : Int) := by omega
  cases b0 : bit0 (p 0)
  · cases b1 : bit1 (p 0)
    · have hc : choose S l (p 0) = S.sure := by simp [choose, b0, b1]
      have HC := Lib.hid hc
      rw [b0] at hx
      rw [b1] at hy
      clear hc b0 b1
      go_enter Try.func50, Try.ntmps50
      go_wp2_with fail
      go_quiet (fail)
      go_wp2_with fail
      have hs := secure_any (w.drewN nq) L S (h.dr_ (Dr.drewN _ _)) l hl L.s L.sc S.sure (h.s.dr (Dr.drewN _ _))
      (with_reducible refine hs.mono ?_)
      rintro e w2 ⟨rfl, hD2, hK2⟩
      go_wp2
      go_ret
      have hk : Keep L.own w w2 := (Keep.dr (Dr.drewN w nq)).trans hK2
      exact ⟨_, _, _, rfl, hp2.keep hk, by rw [HC.out]; exact hD2, hk⟩
    · cases hf : S.fl l
      · have hc : choose S l (p 0) = S.sure := by simp [choose, b0, b1, hf]
        have HC := Lib.hid hc
        rw [b0] at hx
        rw [b1] at hy
        rw [hf] at cl
        clear hc b0 b1 hf
        go_enter Try.func50, Try.ntmps50
        go_wp2_with fail
        go_quiet (fail)
        go_wp2_with fail
        have hs := secure_any (w.drewN nq) L S (h.dr_ (Dr.drewN _ _)) l hl L.s L.sc S.sure (h.s.dr (Dr.drewN _ _))
        (with_reducible refine hs.mono ?_)
        rintro e w2 ⟨rfl, hD2, hK2⟩
        go_wp2
        go_ret
        have hk : Keep L.own w w2 := (Keep.dr (Dr.drewN w nq)).trans hK2
        exact ⟨_, _, _, rfl, hp2.keep hk, by rw [HC.out]; exact hD2, hk⟩
      · have hc : choose S l (p 0) = S.tk := by simp [choose, b0, b1, hf]
        have HC := Lib.hid hc
        rw [b0] at hx
        rw [b1] at hy
        rw [hf] at cl
        clear hc b0 b1 hf
        go_enter Try.func50, Try.ntmps50
        go_wp2_with fail
        go_quiet (fail)
        go_wp2_with fail
        have hs := secure_any (w.drewN nq) L S (h.dr_ (Dr.drewN _ _)) l hl L.t L.tc S.tk (h.t.dr (Dr.drewN _ _))
        (with_reducible refine hs.mono ?_)
        rintro e w2 ⟨rfl, hD2, hK2⟩
        go_wp2
        go_ret
        have hk : Keep L.own w w2 := (Keep.dr (Dr.drewN w nq)).trans hK2
        exact ⟨_, _, _, rfl, hp2.keep hk, by rw [HC.out]; exact hD2, hk⟩
  · have hc : choose S l (p 0) = S.now := by simp [choose, b0]
    have HC := Lib.hid hc
    rw [b0] at hx
    clear hc b0
    go_enter Try.func50, Try.ntmps50
    go_wp2_with fail
    go_quiet (fail)
    go_wp2_with fail
    have hs := secure_any (w.drewN nq) L S (h.dr_ (Dr.drewN _ _)) l hl L.r L.rc S.now (h.r.dr (Dr.drewN _ _))
    (with_reducible refine hs.mono ?_)
    rintro e w2 ⟨rfl, hD2, hK2⟩
    go_wp2
    go_ret
    have hk : Keep L.own w w2 := (Keep.dr (Dr.drewN w nq)).trans hK2
    exact ⟨_, _, _, rfl, hp2.keep hk, by rw [HC.out]; exact hD2, hk⟩

set_option maxHeartbeats 1000000 in
theorem settle_more (w : World) (L : Loc) (S : St) (h : Dev w L S) (l : Nat) (hl : l < nl S.n) (ad : Addr) (m c : Nat) (p : Nat → Int) (hp : Pk w L.own (some ad) m c p) (hm : 0 < m) (hc1 : ¬ c = 1) :
    Calls Try.prog 50 #[.pointer (some ⟨L.d, 0, none⟩), .int .i64 l, .slice (some ad) m c] w (SettlePost L S l p w) := by
  have hp2 := hp.tail hm
  have mc := hp.mc
  have mx := hp.cap
  obtain ⟨ad', e, h1, h2, h3⟩ := hp.cells (by omega)
  injection e with e
  subst e
  have i1 : (1 : Int) ≤ m := by omega
  have i2 : (m : Int) ≤ c := by omega
  have i3 : 1 ≤ m := by omega
  clear hp h1 h2
  have hm' : (0 : Int) < m := by omega
  have e0 : ad.add 0 = ad := by simp [Addr.add]
  have cell := h3 0 hm
  rw [e0] at cell
  have hx : (bits BinOp.and IntKind.u8 (p 0) 1 != 0) = bit0 (p 0) := rfl
  have hy : (bits BinOp.and IntKind.u8 (p 0) 2 != 0) = bit1 (p 0) := rfl
  clear h3 e0
  have c0 := h.c0
  have c1 := h.c1
  have c2 := h.c2
  have c3 := h.c3
  have cl := h.f.cell hl
  change w.cell? _ = some (.bool (S.fl l)) at cl
  have hli : (l : Int) < ((nl S.n : Nat) : Int) := by omega
  cases b0 : bit0 (p 0)
  · cases b1 : bit1 (p 0)
    · have hc : choose S l (p 0) = S.sure := by simp [choose, b0, b1]
      have HC := Lib.hid hc
      rw [b0] at hx
      rw [b1] at hy
      clear hc b0 b1
      go_enter Try.func50, Try.ntmps50
      go_wp2_with fail
      go_quiet (fail)
      go_wp2_with fail
      have hs := secure_any (w.drewN nq) L S (h.dr_ (Dr.drewN _ _)) l hl L.s L.sc S.sure (h.s.dr (Dr.drewN _ _))
      (with_reducible refine hs.mono ?_)
      rintro e w2 ⟨rfl, hD2, hK2⟩
      go_wp2
      go_ret
      have hk : Keep L.own w w2 := (Keep.dr (Dr.drewN w nq)).trans hK2
      exact ⟨_, _, _, rfl, hp2.keep hk, by rw [HC.out]; exact hD2, hk⟩
    · cases hf : S.fl l
      · have hc : choose S l (p 0) = S.sure := by simp [choose, b0, b1, hf]
        have HC := Lib.hid hc
        rw [b0] at hx
        rw [b1] at hy
        rw [hf] at cl
        clear hc b0 b1 hf
        go_enter Try.func50, Try.ntmps50
        go_wp2_with fail
        go_quiet (fail)
        go_wp2_with fail
        have hs := secure_any (w.drewN nq) L S (h.dr_ (Dr.drewN _ _)) l hl L.s L.sc S.sure (h.s.dr (Dr.drewN _ _))
        (with_reducible refine hs.mono ?_)
        rintro e w2 ⟨rfl, hD2, hK2⟩
        go_wp2
        go_ret
        have hk : Keep L.own w w2 := (Keep.dr (Dr.drewN w nq)).trans hK2
        exact ⟨_, _, _, rfl, hp2.keep hk, by rw [HC.out]; exact hD2, hk⟩
      · have hc : choose S l (p 0) = S.tk := by simp [choose, b0, b1, hf]
        have HC := Lib.hid hc
        rw [b0] at hx
        rw [b1] at hy
        rw [hf] at cl
        clear hc b0 b1 hf
        go_enter Try.func50, Try.ntmps50
        go_wp2_with fail
        go_quiet (fail)
        go_wp2_with fail
        have hs := secure_any (w.drewN nq) L S (h.dr_ (Dr.drewN _ _)) l hl L.t L.tc S.tk (h.t.dr (Dr.drewN _ _))
        (with_reducible refine hs.mono ?_)
        rintro e w2 ⟨rfl, hD2, hK2⟩
        go_wp2
        go_ret
        have hk : Keep L.own w w2 := (Keep.dr (Dr.drewN w nq)).trans hK2
        exact ⟨_, _, _, rfl, hp2.keep hk, by rw [HC.out]; exact hD2, hk⟩
  · have hc : choose S l (p 0) = S.now := by simp [choose, b0]
    have HC := Lib.hid hc
    rw [b0] at hx
    clear hc b0
    go_enter Try.func50, Try.ntmps50
    go_wp2_with fail
    go_quiet (fail)
    go_wp2_with fail
    have hs := secure_any (w.drewN nq) L S (h.dr_ (Dr.drewN _ _)) l hl L.r L.rc S.now (h.r.dr (Dr.drewN _ _))
    (with_reducible refine hs.mono ?_)
    rintro e w2 ⟨rfl, hD2, hK2⟩
    go_wp2
    go_ret
    have hk : Keep L.own w w2 := (Keep.dr (Dr.drewN w nq)).trans hK2
    exact ⟨_, _, _, rfl, hp2.keep hk, by rw [HC.out]; exact hD2, hk⟩

theorem settle_any (w : World) (L : Loc) (S : St) (h : Dev w L S) (l : Nat) (hl : l < nl S.n) (A : Option Addr) (m c : Nat) (p : Nat → Int) (hp : Pk w L.own A m c p) :
    Calls Try.prog 50 #[.pointer (some ⟨L.d, 0, none⟩), .int .i64 l, .slice A m c] w (SettlePost L S l p w) := by
  by_cases hm : m = 0
  · subst hm
    exact settle_none w L S h l hl A c p hp
  · obtain ⟨ad, rfl, _⟩ := hp.cells (by omega)
    by_cases hc : c = 1
    · have := hp.mc
      obtain rfl : m = 1 := by omega
      subst hc
      exact settle_last w L S h l hl ad p hp
    · exact settle_more w L S h l hl ad m c p hp (by omega) hc
end Go.Proofs.Ytejhdmpobaffcaa
