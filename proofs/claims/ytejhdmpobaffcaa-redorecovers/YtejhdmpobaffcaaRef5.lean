/-
  The document's own device (scullionref3): Crash. No conditions but what a device is.
-/
import Derived.Test.YtejhdmpobaffcaaRef4
namespace Go.Proofs.Ytejhdmpobaffcaa
open Go.RowKit Go.Flo
set_option maxRecDepth 100000

theorem bits_one : ∀ n : Fin 256, (bits BinOp.and IntKind.u8 ((n.val : Nat) : Int) 1 != 0) = (bits BinOp.and IntKind.u8 ((n.val : Nat) : Int) 1 == 1) ∧ (bits BinOp.and IntKind.u8 ((n.val : Nat) : Int) 2 != 0) = (bits BinOp.and IntKind.u8 ((n.val : Nat) : Int) 2 == 2) := by decide +kernel
theorem bit_eq {x : Int} (h0 : 0 ≤ x) (h1 : x < 256) : (bits BinOp.and IntKind.u8 x 1 == 1) = bit0 x ∧ (bits BinOp.and IntKind.u8 x 2 == 2) = bit1 x := by
  obtain ⟨n, rfl⟩ := Int.eq_ofNat_of_zero_le h0
  have := bits_one ⟨n, by omega⟩
  exact ⟨this.1.symm, this.2.symm⟩

/-- A line's sure words are others, in memory. -/
def sureS (S : St) (i : Nat) (q : Nat → Int) : St := { S with sure := fun j => if 8 * i ≤ j ∧ j < 8 * i + 8 then q j else S.sure j }
theorem Twin.sureAt {w : World} {T : TLoc} {D : List Nat} {S : St} {X : Nat → Nat → Value} {fz : Int} {c : Array Value} (h : Twin w T D S X fz c) {i : Nat} (hi' : i < nl S.n) (v : Value) (q : Nat → Int) (hv : Imm w (T.m :: T.l :: D) v (hi S.n i - lo i) (fun j => q (lo i + j))) :
    TwinE (w.setCell ⟨T.l, i * 4 + 1, none⟩ v) T D (sureS S i q) ∧ Keep [T.l] w (w.setCell ⟨T.l, i * 4 + 1, none⟩ v) := by
  have hk : Keep [T.l] w (w.setCell ⟨T.l, i * 4 + 1, none⟩ v) := Keep.setCell w ⟨T.l, i * 4 + 1, none⟩ (by simp) _
  refine ⟨?_, hk⟩
  have hb := (h.lblk (by omega)).set_ (i * 4 + 1) v
  have hc := cells_set h.cells h.lsz hi' (show 1 < 4 by omega) v
  have ho := (h.ok i hi').keep hk (by simp)
  refine ⟨_, fz, _, h.lineAt hi' hk hb (by simp) hc rfl rfl rfl rfl (fun k hk' => setX_far hk') (fun j _ hj => ⟨rfl, ?_, rfl⟩) (fun k hk' => rfl) ⟨?_, ?_, fun hf => ?_, ?_, ?_⟩⟩
  · show (if 8 * i ≤ j ∧ j < 8 * i + 8 then q j else S.sure j) = S.sure j
    rw [if_neg (by omega)]
  · rw [setX_beside (by omega)]
    exact ho.now
  · rw [setX_here]
    refine (hv.keep hk (by simp)).congr (fun j hj => ?_)
    show q (lo i + j) = if 8 * i ≤ lo i + j ∧ lo i + j < 8 * i + 8 then q (lo i + j) else S.sure (lo i + j)
    rw [if_pos (by unfold hi lo at *; omega)]
  · rw [setX_beside (by omega)]
    exact ho.at_ hf
  · rw [setX_beside (by omega)]
    exact ho.fl
  · rw [setX_beside (by omega)]
    exact ho.va

/-- A line reads as it is sure, in memory. -/
def nowS (S : St) (i : Nat) : St := { S with now := fun j => if 8 * i ≤ j ∧ j < 8 * i + 8 then S.sure j else S.now j, fl := fun k => if k = i then false else S.fl k }
theorem Twin.nowAt {w : World} {T : TLoc} {D : List Nat} {S : St} {X : Nat → Nat → Value} {fz : Int} {c : Array Value} (h : Twin w T D S X fz c) {i : Nat} (hi' : i < nl S.n) :
    TwinE ((w.setCell ⟨T.l, i * 4, none⟩ (X i 1)).setCell ⟨T.l, i * 4 + 3, none⟩ (.bool false)) T D (nowS S i) ∧ Keep [T.l] w ((w.setCell ⟨T.l, i * 4, none⟩ (X i 1)).setCell ⟨T.l, i * 4 + 3, none⟩ (.bool false)) := by
  have hk : Keep [T.l] w ((w.setCell ⟨T.l, i * 4, none⟩ (X i 1)).setCell ⟨T.l, i * 4 + 3, none⟩ (.bool false)) := (Keep.setCell w ⟨T.l, i * 4, none⟩ (by simp) _).trans (Keep.setCell _ ⟨T.l, i * 4 + 3, none⟩ (by simp) _)
  refine ⟨?_, hk⟩
  have hb := ((h.lblk (by omega)).set_ (i * 4) (X i 1)).set_ (i * 4 + 3) (.bool false)
  have hc0 := cells_set h.cells h.lsz hi' (show 0 < 4 by omega) (X i 1)
  rw [Nat.add_zero] at hc0
  have hc := cells_set hc0 (by simpa using h.lsz) hi' (show 3 < 4 by omega) (.bool false)
  have ho := (h.ok i hi').keep hk (by simp)
  refine ⟨_, fz, _, h.lineAt hi' hk hb (by simp) hc rfl rfl rfl rfl (fun k hk' => by rw [setX_far hk', setX_far hk']) (fun j _ hj => ⟨?_, rfl, rfl⟩) (fun k hk' => ?_) ⟨?_, ?_, fun hf => ?_, ?_, ?_⟩⟩
  · show (if 8 * i ≤ j ∧ j < 8 * i + 8 then S.sure j else S.now j) = S.now j
    rw [if_neg (by omega)]
  · show (if k = i then false else S.fl k) = S.fl k
    rw [if_neg hk']
  · rw [setX_beside (by omega), setX_here]
    refine ho.sure.congr (fun j hj => ?_)
    show S.sure (lo i + j) = if 8 * i ≤ lo i + j ∧ lo i + j < 8 * i + 8 then S.sure (lo i + j) else S.now (lo i + j)
    rw [if_pos (by unfold hi lo at *; omega)]
  · rw [setX_beside (by omega), setX_beside (by omega)]
    exact ho.sure
  · have : (if i = i then false else S.fl i) = true := hf
    rw [if_pos rfl] at this
    cases this
  · rw [setX_here]
    show Value.bool false = .bool (if i = i then false else S.fl i)
    rw [if_pos rfl]
  · rw [setX_beside (by omega), setX_beside (by omega)]
    exact ho.va

/-- The first l lines are settled. -/
def crashT (S : St) (p : Nat → Int) (l : Nat) : St := { S with sure := fun i => if i / 8 < l then fin S p i else S.sure i }
/-- .. and the first l lines read so. -/
def crashU (S : St) (p : Nat → Int) (l : Nat) : St := { S with sure := fin S p, now := fun i => if i / 8 < l then fin S p i else S.now i, fl := fun k => if k < l then false else S.fl k }

section
variable {w : World} {T : TLoc} {D : List Nat} {S : St} {p : Nat → Int} {l : Nat}
theorem tcrash_zero (h : TwinE w T D S) : TwinE w T D (crashT S p 0) :=
  h.congr rfl rfl rfl rfl (fun i _ => rfl) (fun i _ => by simp [crashT]) (fun i _ _ => rfl) (fun i _ => rfl)
theorem tcrash_same (hq : ∀ i, i < S.n → i / 8 = l → fin S p i = S.sure i) (h : TwinE w T D (crashT S p l)) : TwinE w T D (crashT S p (l + 1)) :=
  h.congr rfl rfl rfl rfl (fun i _ => rfl) (fun i hi => by
    by_cases h1 : i / 8 = l
    · show (if i / 8 < l then _ else _) = if i / 8 < l + 1 then _ else _
      rw [if_neg (by omega), if_pos (by omega)]
      exact (hq i hi h1).symm
    · have e2 : i / 8 < l + 1 ↔ i / 8 < l := by omega
      simp [crashT, e2]) (fun i _ _ => rfl) (fun i _ => rfl)
theorem tcrash_next {q : Nat → Int} (hq : ∀ i, i < S.n → i / 8 = l → fin S p i = q i) (h : TwinE w T D (sureS (crashT S p l) l q)) : TwinE w T D (crashT S p (l + 1)) :=
  h.congr rfl rfl rfl rfl (fun i _ => rfl) (fun i hi => by
    show (if 8 * l ≤ i ∧ i < 8 * l + 8 then q i else (if i / 8 < l then _ else _)) = if i / 8 < l + 1 then _ else _
    by_cases h1 : i / 8 = l
    · rw [if_pos (by omega), if_pos (by omega)]
      exact (hq i hi h1).symm
    · rw [if_neg (by omega)]
      have e2 : i / 8 < l + 1 ↔ i / 8 < l := by omega
      simp [e2]) (fun i _ _ => rfl) (fun i _ => rfl)
theorem tcrash_turn (h : TwinE w T D (crashT S p (nl S.n))) : TwinE w T D (crashU S p 0) :=
  h.congr rfl rfl rfl rfl (fun i _ => by simp [crashT, crashU]) (fun i hi => by
    have : i / 8 < nl S.n := by unfold nl; change i < S.n at hi; omega
    simp [crashT, crashU, this]) (fun i _ _ => rfl) (fun i _ => by simp [crashT, crashU])
theorem tcrash_now (h : TwinE w T D (nowS (crashU S p l) l)) : TwinE w T D (crashU S p (l + 1)) :=
  h.congr rfl rfl rfl rfl (fun i _ => by
    show (if 8 * l ≤ i ∧ i < 8 * l + 8 then fin S p i else (if i / 8 < l then _ else _)) = if i / 8 < l + 1 then _ else _
    by_cases h1 : i / 8 = l
    · rw [if_pos (by omega), if_pos (by omega)]
    · rw [if_neg (by omega)]
      have e2 : i / 8 < l + 1 ↔ i / 8 < l := by omega
      simp [e2]) (fun i _ => rfl) (fun i _ _ => rfl) (fun k _ => by
    show (if k = l then false else (if k < l then false else S.fl k)) = if k < l + 1 then false else S.fl k
    by_cases h1 : k = l
    · rw [if_pos h1, if_pos (by omega)]
    · rw [if_neg h1]
      have e2 : k < l + 1 ↔ k < l := by omega
      simp [e2])
theorem fin_clean (hn : nc S l = false) : ∀ i, i < S.n → i / 8 = l → fin S p i = S.sure i := by
  intro i _ hi
  unfold fin
  rw [hi, hn]
  rfl
theorem fin_pick (hn : nc S l = true) : ∀ i, i < S.n → i / 8 = l → fin S p i = choose S l (p (used S l)) i := by
  intro i _ hi
  unfold fin
  rw [hi, hn]
  rfl
end

theorem tcrash_done {w : World} {T : TLoc} {D : List Nat} {S : St} {p : Nat → Int} (h : TwinE w T D (crashU S p (nl S.n))) :
    TwinE ((w.setCell ⟨T.m, 4, none⟩ (.bool false)).setCell ⟨T.m, 3, none⟩ (.int .i64 0)) T D (crashS S p) := by
  have h' : TwinE w T D { crashS S p with off := S.off, fuse := S.fuse } := h.congr rfl rfl rfl rfl (fun i hi => by
    have : i / 8 < nl S.n := by unfold nl; change i < S.n at hi; omega
    simp [crashU, crashS, this]) (fun i _ => rfl) (fun i _ _ => rfl) (fun i hi => by
    change i < nl S.n at hi
    simp [crashU, crashS, hi])
  obtain ⟨X, fz, c, hT⟩ := h'
  obtain ⟨_, a2, a3, a4⟩ := hT.setM 4 (.bool false)
  have h1 : Twin (w.setCell ⟨T.m, 4, none⟩ (.bool false)) T D { crashS S p with off := false, fuse := fz } X fz c :=
    { hT with blk := hT.blk.set_ 4 _, dlt := a3, lblk := a2, ok := a4, fuse := fun _ => rfl }
  exact ⟨X, 0, c, h1.set3 0 0 (by omega) (by omega) (fun _ => rfl)⟩

theorem Pk.shift {w : World} {own : List Nat} {A : Option Addr} {m c u : Nat} {p : Nat → Int} (h : Pk w own A m c (fun j => p (u + (j + 1)))) : Pk w own A m c (fun j => p (u + 1 + j)) := by
  simpa [Nat.add_assoc, Nat.add_comm 1] using h

def RCrash1 (w0 : World) (T : TLoc) (D own : List Nat) (S : St) (p : Nat → Int) (x y : Value) (wr : World) : Prop :=
  ∃ (i : Nat) (A : Option Addr) (m c : Nat), x = .int .i64 i ∧ y = .slice A m c ∧ i ≤ nl S.n ∧ TwinE wr T D (crashT S p i) ∧ Pk wr own A m c (fun j => p (used S i + j)) ∧ Keep T.own w0 wr
def RCrash2 (w0 : World) (T : TLoc) (D : List Nat) (S : St) (p : Nat → Int) (x : Value) (wr : World) : Prop :=
  ∃ i : Nat, x = .int .i64 i ∧ i ≤ nl S.n ∧ TwinE wr T D (crashU S p i) ∧ Keep T.own w0 wr

theorem nc_eq (S : St) (l : Nat) : nc S l = !(eqB (hi S.n l - lo l) (fun j => S.now (lo l + j)) (fun j => S.sure (lo l + j)) && !S.fl l) := by
  unfold nc dirtyB
  cases S.fl l <;> cases eqB (hi S.n l - lo l) (fun j => S.now (lo l + j)) (fun j => S.sure (lo l + j)) <;> rfl

set_option maxRecDepth 100000 in
set_option maxHeartbeats 16000000 in
theorem rcrash_any (w : World) (T : TLoc) (D : List Nat) (S : St) (h : TwinE w T D S) (A : Option Addr) (m c : Nat) (p : Nat → Int) (hp : Pk w T.own A m c p) (hpb : ∀ j, 0 ≤ p j ∧ p j < 256) :
    Calls Try.prog 22 #[.pointer (some ⟨T.m, 0, none⟩), .slice A m c] w (TDid T D (crashS S p) w (.tuple #[])) := by
  obtain ⟨X, fz, cc, hT0⟩ := id h
  have hmx : nl S.n ≤ 65536 := by have := hT0.n; unfold nl; omega
  have c1 := hT0.c1
  have HPB := Lib.hid hpb
  clear hT0 hpb
  go_enter Try.func22, Try.ntmps22
  go_wp2_with fail
  go_loopw [13, 1] (fun x y wr => RCrash1 w T D T.own S p x y wr) (fun x _ _ => nl S.n - (intOf x).toNat)
  case atStart => exact ⟨0, A, m, c, rfl, rfl, by omega, tcrash_zero h, by simpa [used] using hp, Keep.refl _ _⟩
  case round =>
    obtain ⟨i, A1, m1, k1, rfl, rfl, hi1, hT2, hP2, hK2⟩ := hrel
    clear c1 hp h
    by_cases hlt : i < nl S.n
    · have hlt' : (i : Int) < ((nl S.n : Nat) : Int) := by omega
      obtain ⟨X2, fz2, c2, hT⟩ := id hT2
      have c1 := hT.c1
      have hA := hT.adr (by show 0 < nl S.n; omega)
      rw [hA] at c1
      change wr.cell? _ = some (.slice _ (nl S.n) _) at c1
      have hl : i < nl (crashT S p i).n := hlt
      have cl0 := hT.lcell hl (show 0 < 4 by omega)
      have cl1 := hT.lcell hl (show 1 < 4 by omega)
      have cl2 := hT.lcell hl (show 2 < 4 by omega)
      have cl3 := hT.lcell hl (show 3 < 4 by omega)
      have zl := hT.lz hl
      have hok := hT.ok i hl
      rw [hok.fl] at cl3
      change wr.cell? _ = some (.bool (S.fl i)) at cl3
      obtain ⟨gn, cn, hXn, hRn, hgn⟩ := hok.now
      obtain ⟨gs, cs, hXs, hRs, hgs⟩ := hok.sure
      obtain ⟨Aa, na, ca, hXa⟩ := hok.va
      have hb8 : hi S.n i - lo i ≤ 8 := by unfold hi lo; omega
      have hsm : ∀ W, Dr wr W → Calls Try.prog 51 #[.slice (some ⟨gn, 0, none⟩) (hi S.n i - lo i) cn, .slice (some ⟨gs, 0, none⟩) (hi S.n i - lo i) cs] W fun e w' => e = .returned (.bool (eqB (hi S.n i - lo i) (fun j => S.now (lo i + j)) (fun j => S.sure (lo i + j)))) ∧ Dr W w' := fun W d =>
        rsame_any W gn 0 cn gs 0 cs _ _ _ (by omega) (fun j hj => by rw [Nat.zero_add]; exact (hRn.dr d).cell hj) (fun j hj => by
          rw [Nat.zero_add]
          have := (hRs.dr d).cell hj
          have e : (crashT S p i).sure (lo i + j) = S.sure (lo i + j) := by
            show (if (lo i + j) / 8 < i then _ else _) = _
            rw [if_neg (by unfold hi lo at *; omega)]
          unfold Go.Proofs.Ytejhdmpobaffcaa.u64 at this
          dsimp only at this
          rw [e] at this
          exact this)
      have hnc := nc_eq S i
      generalize hZ : eqB (hi S.n i - lo i) (fun j => S.now (lo i + j)) (fun j => S.sure (lo i + j)) = Z at *
      rw [hXn, Nat.add_zero] at cl0
      rw [hXs] at cl1
      change wr.cell? ⟨T.l, i * 4, none⟩ = some (.slice _ (hi S.n i - lo i) _) at cl0
      change wr.cell? ⟨T.l, i * 4 + 1, none⟩ = some (.slice _ (hi S.n i - lo i) _) at cl1
      rw [hXa] at cl2
      have hsureN : ∀ W, Dr wr W → TwinE (W.setCell ⟨T.l, i * 4 + 1, none⟩ (X2 i 0)) T D (sureS (crashT S p i) i S.now) ∧ Keep [T.l] W (W.setCell ⟨T.l, i * 4 + 1, none⟩ (X2 i 0)) := fun W d => (hT.dr d).sureAt hl (X2 i 0) S.now ((hT.dr d).ok i hl).now
      have hsureA : S.fl i = true → ∀ W, Dr wr W → TwinE (W.setCell ⟨T.l, i * 4 + 1, none⟩ (X2 i 2)) T D (sureS (crashT S p i) i S.tk) ∧ Keep [T.l] W (W.setCell ⟨T.l, i * 4 + 1, none⟩ (X2 i 2)) := fun hf W d => (hT.dr d).sureAt hl (X2 i 2) S.tk (((hT.dr d).ok i hl).at_ hf)
      rw [hXn] at hsureN
      rw [hXa] at hsureA
      change ∀ W, Dr wr W → TwinE (W.setCell ⟨T.l, i * 4 + 1, none⟩ (.slice (some ⟨gn, 0, none⟩) (hi S.n i - lo i) cn)) T D _ ∧ Keep [T.l] W (W.setCell ⟨T.l, i * 4 + 1, none⟩ (.slice (some ⟨gn, 0, none⟩) (hi S.n i - lo i) cn)) at hsureN
      have hpick : nc S i = true → (∀ i', i' < S.n → i' / 8 = i → fin S p i' = choose S i (p (used S i)) i') := fun hn => fin_pick hn
      have HSM := Lib.hid hsm
      have HSN := Lib.hid hsureN
      have HSA := Lib.hid hsureA
      have HPI := Lib.hid hpick
      have HNC := Lib.hid hnc
      clear hsm hsureN hsureA hpick hok hXn hXs hXa hRn hRs hT hA hZ hgn hgs hnc
      generalize hi S.n i - lo i = HL at *
      cases Z
      · -- not alike: a pick
        have hn1 : nc S i = true := by rw [HNC.out]; rfl
        have HN1 := Lib.hid hn1
        clear hn1
        cases hf : S.fl i
        · rw [hf] at cl3
          have HFL := Lib.hid hf
          clear hf HSA
          have hu : used S (i + 1) = used S i + 1 := by simp [used, HN1.out]
          have HU := Lib.hid hu
          clear hu
          have hx := HPB.out (used S i)
          obtain ⟨hb0, hb1⟩ := bit_eq hx.1 hx.2
          have hch := HPI.out HN1.out
          by_cases hm : m1 = 0
          · subst hm
            have hx0 : p (used S i) = 0 := hP2.lack 0 (by omega)
            have hq : ∀ i', i' < S.n → i' / 8 = i → fin S p i' = S.sure i' := fun i' a b => by
              rw [hch i' a b, hx0]
              simp [choose, bit0_zero, bit1_zero]
            have HT3 := Lib.hid (tcrash_same hq hT2)
            have HP3 := Lib.hid hP2.tail0
            clear hx hb0 hb1 hch hx0 hq hP2 hT2
            go_wp2_with fail
            go_quiet ((go_at_call 51; refine quiet (HSM.out _ (Dr.drewN _ _))))
            go_wp2_with fail
            refine ⟨⟨i + 1, _, _, _, by go_num, rfl, by omega, HT3.out.keepE (Keep.dr (Dr.drewN _ _)), ?_, hK2.trans (Keep.dr (Dr.drewN _ _))⟩, by simp [intOf]; omega⟩
            rw [HU.out]
            exact Pk.shift (HP3.out.keep (Keep.dr (Dr.drewN wr nq)))
          · obtain ⟨ad, rfl, ha1, ha2, ha3⟩ := hP2.cells (by omega)
            have hcell := ha3 0 (by omega)
            have e0 : ad.add 0 = ad := by simp [Addr.add]
            rw [e0] at hcell
            change wr.cell? ad = some (.int .u8 (p (used S i))) at hcell
            have mc := hP2.mc
            have mx := hP2.cap
            by_cases hk1 : k1 = 1
            · obtain rfl : m1 = 1 := by omega
              subst hk1
              have HP3 := Lib.hid hP2.tail1
              clear ha1 ha2 ha3 e0 hP2 hm
              cases b0 : bit0 (p (used S i))
              · rw [b0] at hb0
                cases b1 : bit1 (p (used S i))
                · rw [b1] at hb1
                  have hq : ∀ i', i' < S.n → i' / 8 = i → fin S p i' = S.sure i' := fun i' a b => by
                    rw [hch i' a b]
                    simp [choose, b0, b1]
                  have HT3 := Lib.hid (tcrash_same hq hT2)
                  clear hx hch hq hT2 b0 b1
                  generalize p (used S i) = x0 at *
                  go_wp2_with fail
                  go_quiet ((go_at_call 51; refine quiet (HSM.out _ (Dr.drewN _ _))))
                  go_wp2_with fail
                  go_quiet (fail)
                  go_wp2_with fail
                  refine ⟨⟨i + 1, _, _, _, by go_num, rfl, by omega, HT3.out.keepE (Keep.dr (Dr.drewN wr _)), ?_, hK2.trans (Keep.dr (Dr.drewN wr _))⟩, by simp [intOf]; omega⟩
                  rw [HU.out]
                  exact Pk.shift (HP3.out.keep (Keep.dr (Dr.drewN wr _)))
                · rw [b1] at hb1
                  have hq : ∀ i', i' < S.n → i' / 8 = i → fin S p i' = S.sure i' := fun i' a b => by
                    rw [hch i' a b]
                    simp [choose, b0, b1, HFL.out]
                  have HT3 := Lib.hid (tcrash_same hq hT2)
                  clear hx hch hq hT2 b0 b1
                  generalize p (used S i) = x0 at *
                  go_wp2_with fail
                  go_quiet ((go_at_call 51; refine quiet (HSM.out _ (Dr.drewN _ _))))
                  go_wp2_with fail
                  go_quiet (fail)
                  go_wp2_with fail
                  refine ⟨⟨i + 1, _, _, _, by go_num, rfl, by omega, HT3.out.keepE (Keep.dr (Dr.drewN wr _)), ?_, hK2.trans (Keep.dr (Dr.drewN wr _))⟩, by simp [intOf]; omega⟩
                  rw [HU.out]
                  exact Pk.shift (HP3.out.keep (Keep.dr (Dr.drewN wr _)))
              · rw [b0] at hb0
                have hq : ∀ i', i' < S.n → i' / 8 = i → fin S p i' = S.now i' := fun i' a b => by
                  rw [hch i' a b]
                  simp [choose, b0]
                have hst : ∀ W, Dr wr W → TwinE (W.setCell ⟨T.l, i * 4 + 1, none⟩ (.slice (some ⟨gn, 0, none⟩) HL cn)) T D (crashT S p (i + 1)) ∧ Keep [T.l] W (W.setCell ⟨T.l, i * 4 + 1, none⟩ (.slice (some ⟨gn, 0, none⟩) HL cn)) := fun W d => ⟨tcrash_next hq (HSN.out W d).1, (HSN.out W d).2⟩
                have HST := Lib.hid hst
                clear hx hch hq hT2 b0 hst hb1
                generalize p (used S i) = x0 at *
                go_wp2_with fail
                go_quiet ((go_at_call 51; refine quiet (HSM.out _ (Dr.drewN _ _))))
                go_wp2_with fail
                go_quiet (fail)
                go_wp2_with fail
                refine ⟨⟨i + 1, _, _, _, by go_num, rfl, by omega, (HST.out _ (Dr.drewN wr _)).1, ?_, (hK2.trans (Keep.dr (Dr.drewN wr _))).trans (TwinE.own (HST.out _ (Dr.drewN wr _)).2)⟩, by simp [intOf]; omega⟩
                rw [HU.out]
                exact Pk.shift (HP3.out.keep ((Keep.dr (Dr.drewN wr _)).trans (TwinE.own (HST.out _ (Dr.drewN wr _)).2)))
            · have i1 : (1 : Int) ≤ m1 := by omega
              have i2 : (m1 : Int) ≤ k1 := by omega
              have i3 : 1 ≤ m1 := by omega
              have i4 : (0 : Int) < m1 := by omega
              have HP3 := Lib.hid (hP2.tail (by omega))
              clear ha1 ha2 ha3 e0 hP2 hm
              cases b0 : bit0 (p (used S i))
              · rw [b0] at hb0
                cases b1 : bit1 (p (used S i))
                · rw [b1] at hb1
                  have hq : ∀ i', i' < S.n → i' / 8 = i → fin S p i' = S.sure i' := fun i' a b => by
                    rw [hch i' a b]
                    simp [choose, b0, b1]
                  have HT3 := Lib.hid (tcrash_same hq hT2)
                  clear hx hch hq hT2 b0 b1
                  generalize p (used S i) = x0 at *
                  go_wp2_with fail
                  go_quiet ((go_at_call 51; refine quiet (HSM.out _ (Dr.drewN _ _))))
                  go_wp2_with fail
                  go_quiet (fail)
                  go_wp2_with fail
                  refine ⟨⟨i + 1, _, _, _, by go_num, rfl, by omega, HT3.out.keepE (Keep.dr (Dr.drewN wr _)), ?_, hK2.trans (Keep.dr (Dr.drewN wr _))⟩, by simp [intOf]; omega⟩
                  rw [HU.out]
                  exact Pk.shift (HP3.out.keep (Keep.dr (Dr.drewN wr _)))
                · rw [b1] at hb1
                  have hq : ∀ i', i' < S.n → i' / 8 = i → fin S p i' = S.sure i' := fun i' a b => by
                    rw [hch i' a b]
                    simp [choose, b0, b1, HFL.out]
                  have HT3 := Lib.hid (tcrash_same hq hT2)
                  clear hx hch hq hT2 b0 b1
                  generalize p (used S i) = x0 at *
                  go_wp2_with fail
                  go_quiet ((go_at_call 51; refine quiet (HSM.out _ (Dr.drewN _ _))))
                  go_wp2_with fail
                  go_quiet (fail)
                  go_wp2_with fail
                  refine ⟨⟨i + 1, _, _, _, by go_num, rfl, by omega, HT3.out.keepE (Keep.dr (Dr.drewN wr _)), ?_, hK2.trans (Keep.dr (Dr.drewN wr _))⟩, by simp [intOf]; omega⟩
                  rw [HU.out]
                  exact Pk.shift (HP3.out.keep (Keep.dr (Dr.drewN wr _)))
              · rw [b0] at hb0
                have hq : ∀ i', i' < S.n → i' / 8 = i → fin S p i' = S.now i' := fun i' a b => by
                  rw [hch i' a b]
                  simp [choose, b0]
                have hst : ∀ W, Dr wr W → TwinE (W.setCell ⟨T.l, i * 4 + 1, none⟩ (.slice (some ⟨gn, 0, none⟩) HL cn)) T D (crashT S p (i + 1)) ∧ Keep [T.l] W (W.setCell ⟨T.l, i * 4 + 1, none⟩ (.slice (some ⟨gn, 0, none⟩) HL cn)) := fun W d => ⟨tcrash_next hq (HSN.out W d).1, (HSN.out W d).2⟩
                have HST := Lib.hid hst
                clear hx hch hq hT2 b0 hst hb1
                generalize p (used S i) = x0 at *
                go_wp2_with fail
                go_quiet ((go_at_call 51; refine quiet (HSM.out _ (Dr.drewN _ _))))
                go_wp2_with fail
                go_quiet (fail)
                go_wp2_with fail
                refine ⟨⟨i + 1, _, _, _, by go_num, rfl, by omega, (HST.out _ (Dr.drewN wr _)).1, ?_, (hK2.trans (Keep.dr (Dr.drewN wr _))).trans (TwinE.own (HST.out _ (Dr.drewN wr _)).2)⟩, by simp [intOf]; omega⟩
                rw [HU.out]
                exact Pk.shift (HP3.out.keep ((Keep.dr (Dr.drewN wr _)).trans (TwinE.own (HST.out _ (Dr.drewN wr _)).2)))
        · rw [hf] at cl3
          have HFL := Lib.hid hf
          have HSA1 := Lib.hid (HSA.out hf)
          clear hf HSA
          have hu : used S (i + 1) = used S i + 1 := by simp [used, HN1.out]
          have HU := Lib.hid hu
          clear hu
          have hx := HPB.out (used S i)
          obtain ⟨hb0, hb1⟩ := bit_eq hx.1 hx.2
          have hch := HPI.out HN1.out
          by_cases hm : m1 = 0
          · subst hm
            have hx0 : p (used S i) = 0 := hP2.lack 0 (by omega)
            have hq : ∀ i', i' < S.n → i' / 8 = i → fin S p i' = S.sure i' := fun i' a b => by
              rw [hch i' a b, hx0]
              simp [choose, bit0_zero, bit1_zero]
            have HT3 := Lib.hid (tcrash_same hq hT2)
            have HP3 := Lib.hid hP2.tail0
            clear hx hb0 hb1 hch hx0 hq hP2 hT2
            go_wp2_with fail
            go_quiet ((go_at_call 51; refine quiet (HSM.out _ (Dr.drewN _ _))))
            go_wp2_with fail
            refine ⟨⟨i + 1, _, _, _, by go_num, rfl, by omega, HT3.out.keepE (Keep.dr (Dr.drewN _ _)), ?_, hK2.trans (Keep.dr (Dr.drewN _ _))⟩, by simp [intOf]; omega⟩
            rw [HU.out]
            exact Pk.shift (HP3.out.keep (Keep.dr (Dr.drewN wr nq)))
          · obtain ⟨ad, rfl, ha1, ha2, ha3⟩ := hP2.cells (by omega)
            have hcell := ha3 0 (by omega)
            have e0 : ad.add 0 = ad := by simp [Addr.add]
            rw [e0] at hcell
            change wr.cell? ad = some (.int .u8 (p (used S i))) at hcell
            have mc := hP2.mc
            have mx := hP2.cap
            by_cases hk1 : k1 = 1
            · obtain rfl : m1 = 1 := by omega
              subst hk1
              have HP3 := Lib.hid hP2.tail1
              clear ha1 ha2 ha3 e0 hP2 hm
              cases b0 : bit0 (p (used S i))
              · rw [b0] at hb0
                cases b1 : bit1 (p (used S i))
                · rw [b1] at hb1
                  have hq : ∀ i', i' < S.n → i' / 8 = i → fin S p i' = S.sure i' := fun i' a b => by
                    rw [hch i' a b]
                    simp [choose, b0, b1]
                  have HT3 := Lib.hid (tcrash_same hq hT2)
                  clear hx hch hq hT2 b0 b1
                  generalize p (used S i) = x0 at *
                  go_wp2_with fail
                  go_quiet ((go_at_call 51; refine quiet (HSM.out _ (Dr.drewN _ _))))
                  go_wp2_with fail
                  go_quiet (fail)
                  go_wp2_with fail
                  refine ⟨⟨i + 1, _, _, _, by go_num, rfl, by omega, HT3.out.keepE (Keep.dr (Dr.drewN wr _)), ?_, hK2.trans (Keep.dr (Dr.drewN wr _))⟩, by simp [intOf]; omega⟩
                  rw [HU.out]
                  exact Pk.shift (HP3.out.keep (Keep.dr (Dr.drewN wr _)))
                · rw [b1] at hb1
                  have hq : ∀ i', i' < S.n → i' / 8 = i → fin S p i' = S.tk i' := fun i' a b => by
                    rw [hch i' a b]
                    simp [choose, b0, b1, HFL.out]
                  have hst : ∀ W, Dr wr W → TwinE (W.setCell ⟨T.l, i * 4 + 1, none⟩ (.slice Aa na ca)) T D (crashT S p (i + 1)) ∧ Keep [T.l] W (W.setCell ⟨T.l, i * 4 + 1, none⟩ (.slice Aa na ca)) := fun W d => ⟨tcrash_next hq (HSA1.out W d).1, (HSA1.out W d).2⟩
                  have HST := Lib.hid hst
                  clear hx hch hq hT2 b0 b1 hst
                  generalize p (used S i) = x0 at *
                  go_wp2_with fail
                  go_quiet ((go_at_call 51; refine quiet (HSM.out _ (Dr.drewN _ _))))
                  go_wp2_with fail
                  go_quiet (fail)
                  go_wp2_with fail
                  refine ⟨⟨i + 1, _, _, _, by go_num, rfl, by omega, (HST.out _ (Dr.drewN wr _)).1, ?_, (hK2.trans (Keep.dr (Dr.drewN wr _))).trans (TwinE.own (HST.out _ (Dr.drewN wr _)).2)⟩, by simp [intOf]; omega⟩
                  rw [HU.out]
                  exact Pk.shift (HP3.out.keep ((Keep.dr (Dr.drewN wr _)).trans (TwinE.own (HST.out _ (Dr.drewN wr _)).2)))
              · rw [b0] at hb0
                have hq : ∀ i', i' < S.n → i' / 8 = i → fin S p i' = S.now i' := fun i' a b => by
                  rw [hch i' a b]
                  simp [choose, b0]
                have hst : ∀ W, Dr wr W → TwinE (W.setCell ⟨T.l, i * 4 + 1, none⟩ (.slice (some ⟨gn, 0, none⟩) HL cn)) T D (crashT S p (i + 1)) ∧ Keep [T.l] W (W.setCell ⟨T.l, i * 4 + 1, none⟩ (.slice (some ⟨gn, 0, none⟩) HL cn)) := fun W d => ⟨tcrash_next hq (HSN.out W d).1, (HSN.out W d).2⟩
                have HST := Lib.hid hst
                clear hx hch hq hT2 b0 hst hb1
                generalize p (used S i) = x0 at *
                go_wp2_with fail
                go_quiet ((go_at_call 51; refine quiet (HSM.out _ (Dr.drewN _ _))))
                go_wp2_with fail
                go_quiet (fail)
                go_wp2_with fail
                refine ⟨⟨i + 1, _, _, _, by go_num, rfl, by omega, (HST.out _ (Dr.drewN wr _)).1, ?_, (hK2.trans (Keep.dr (Dr.drewN wr _))).trans (TwinE.own (HST.out _ (Dr.drewN wr _)).2)⟩, by simp [intOf]; omega⟩
                rw [HU.out]
                exact Pk.shift (HP3.out.keep ((Keep.dr (Dr.drewN wr _)).trans (TwinE.own (HST.out _ (Dr.drewN wr _)).2)))
            · have i1 : (1 : Int) ≤ m1 := by omega
              have i2 : (m1 : Int) ≤ k1 := by omega
              have i3 : 1 ≤ m1 := by omega
              have i4 : (0 : Int) < m1 := by omega
              have HP3 := Lib.hid (hP2.tail (by omega))
              clear ha1 ha2 ha3 e0 hP2 hm
              cases b0 : bit0 (p (used S i))
              · rw [b0] at hb0
                cases b1 : bit1 (p (used S i))
                · rw [b1] at hb1
                  have hq : ∀ i', i' < S.n → i' / 8 = i → fin S p i' = S.sure i' := fun i' a b => by
                    rw [hch i' a b]
                    simp [choose, b0, b1]
                  have HT3 := Lib.hid (tcrash_same hq hT2)
                  clear hx hch hq hT2 b0 b1
                  generalize p (used S i) = x0 at *
                  go_wp2_with fail
                  go_quiet ((go_at_call 51; refine quiet (HSM.out _ (Dr.drewN _ _))))
                  go_wp2_with fail
                  go_quiet (fail)
                  go_wp2_with fail
                  refine ⟨⟨i + 1, _, _, _, by go_num, rfl, by omega, HT3.out.keepE (Keep.dr (Dr.drewN wr _)), ?_, hK2.trans (Keep.dr (Dr.drewN wr _))⟩, by simp [intOf]; omega⟩
                  rw [HU.out]
                  exact Pk.shift (HP3.out.keep (Keep.dr (Dr.drewN wr _)))
                · rw [b1] at hb1
                  have hq : ∀ i', i' < S.n → i' / 8 = i → fin S p i' = S.tk i' := fun i' a b => by
                    rw [hch i' a b]
                    simp [choose, b0, b1, HFL.out]
                  have hst : ∀ W, Dr wr W → TwinE (W.setCell ⟨T.l, i * 4 + 1, none⟩ (.slice Aa na ca)) T D (crashT S p (i + 1)) ∧ Keep [T.l] W (W.setCell ⟨T.l, i * 4 + 1, none⟩ (.slice Aa na ca)) := fun W d => ⟨tcrash_next hq (HSA1.out W d).1, (HSA1.out W d).2⟩
                  have HST := Lib.hid hst
                  clear hx hch hq hT2 b0 b1 hst
                  generalize p (used S i) = x0 at *
                  go_wp2_with fail
                  go_quiet ((go_at_call 51; refine quiet (HSM.out _ (Dr.drewN _ _))))
                  go_wp2_with fail
                  go_quiet (fail)
                  go_wp2_with fail
                  refine ⟨⟨i + 1, _, _, _, by go_num, rfl, by omega, (HST.out _ (Dr.drewN wr _)).1, ?_, (hK2.trans (Keep.dr (Dr.drewN wr _))).trans (TwinE.own (HST.out _ (Dr.drewN wr _)).2)⟩, by simp [intOf]; omega⟩
                  rw [HU.out]
                  exact Pk.shift (HP3.out.keep ((Keep.dr (Dr.drewN wr _)).trans (TwinE.own (HST.out _ (Dr.drewN wr _)).2)))
              · rw [b0] at hb0
                have hq : ∀ i', i' < S.n → i' / 8 = i → fin S p i' = S.now i' := fun i' a b => by
                  rw [hch i' a b]
                  simp [choose, b0]
                have hst : ∀ W, Dr wr W → TwinE (W.setCell ⟨T.l, i * 4 + 1, none⟩ (.slice (some ⟨gn, 0, none⟩) HL cn)) T D (crashT S p (i + 1)) ∧ Keep [T.l] W (W.setCell ⟨T.l, i * 4 + 1, none⟩ (.slice (some ⟨gn, 0, none⟩) HL cn)) := fun W d => ⟨tcrash_next hq (HSN.out W d).1, (HSN.out W d).2⟩
                have HST := Lib.hid hst
                clear hx hch hq hT2 b0 hst hb1
                generalize p (used S i) = x0 at *
                go_wp2_with fail
                go_quiet ((go_at_call 51; refine quiet (HSM.out _ (Dr.drewN _ _))))
                go_wp2_with fail
                go_quiet (fail)
                go_wp2_with fail
                refine ⟨⟨i + 1, _, _, _, by go_num, rfl, by omega, (HST.out _ (Dr.drewN wr _)).1, ?_, (hK2.trans (Keep.dr (Dr.drewN wr _))).trans (TwinE.own (HST.out _ (Dr.drewN wr _)).2)⟩, by simp [intOf]; omega⟩
                rw [HU.out]
                exact Pk.shift (HP3.out.keep ((Keep.dr (Dr.drewN wr _)).trans (TwinE.own (HST.out _ (Dr.drewN wr _)).2)))
      · cases hf : S.fl i
        · -- alike, and not flushed: passed by
          have hn1 : nc S i = false := by rw [HNC.out, hf]; rfl
          rw [hf] at cl3
          have hT3 := tcrash_same (fin_clean (p := p) hn1) hT2
          have hu : used S (i + 1) = used S i := by simp [used, hn1]
          have HT3 := Lib.hid hT3
          have HU := Lib.hid hu
          have HP2 := Lib.hid hP2
          clear hn1 hf hT3 hu hP2
          go_wp2_with fail
          go_quiet ((go_at_call 51; refine quiet (HSM.out _ (Dr.drewN _ _))))
          go_wp2_with fail
          refine ⟨⟨i + 1, A1, m1, k1, by go_num, rfl, by omega, HT3.out.keepE (Keep.dr (Dr.drewN _ _)), ?_, hK2.trans (Keep.dr (Dr.drewN _ _))⟩, by simp [intOf]; omega⟩
          rw [HU.out]
          exact HP2.out.keep (Keep.dr (Dr.drewN _ _))
        · have hn1 : nc S i = true := by rw [HNC.out, hf]; rfl
          have HN1 := Lib.hid hn1
          clear hn1
          rw [hf] at cl3
          have HSA1 := Lib.hid (HSA.out hf)
          have HFL := Lib.hid hf
          clear hf HSA
          have hu : used S (i + 1) = used S i + 1 := by simp [used, HN1.out]
          have HU := Lib.hid hu
          clear hu
          have hx := HPB.out (used S i)
          obtain ⟨hb0, hb1⟩ := bit_eq hx.1 hx.2
          have hch := HPI.out HN1.out
          by_cases hm : m1 = 0
          · subst hm
            have hx0 : p (used S i) = 0 := hP2.lack 0 (by omega)
            have hq : ∀ i', i' < S.n → i' / 8 = i → fin S p i' = S.sure i' := fun i' a b => by
              rw [hch i' a b, hx0]
              simp [choose, bit0_zero, bit1_zero]
            have HT3 := Lib.hid (tcrash_same hq hT2)
            have HP3 := Lib.hid hP2.tail0
            clear hx hb0 hb1 hch hx0 hq hP2 hT2
            go_wp2_with fail
            go_quiet ((go_at_call 51; refine quiet (HSM.out _ (Dr.drewN _ _))))
            go_wp2_with fail
            refine ⟨⟨i + 1, _, _, _, by go_num, rfl, by omega, HT3.out.keepE (Keep.dr (Dr.drewN _ _)), ?_, hK2.trans (Keep.dr (Dr.drewN _ _))⟩, by simp [intOf]; omega⟩
            rw [HU.out]
            exact Pk.shift (HP3.out.keep (Keep.dr (Dr.drewN wr nq)))
          · obtain ⟨ad, rfl, ha1, ha2, ha3⟩ := hP2.cells (by omega)
            have hcell := ha3 0 (by omega)
            have e0 : ad.add 0 = ad := by simp [Addr.add]
            rw [e0] at hcell
            change wr.cell? ad = some (.int .u8 (p (used S i))) at hcell
            have mc := hP2.mc
            have mx := hP2.cap
            by_cases hk1 : k1 = 1
            · obtain rfl : m1 = 1 := by omega
              subst hk1
              have HP3 := Lib.hid hP2.tail1
              clear ha1 ha2 ha3 e0 hP2 hm
              cases b0 : bit0 (p (used S i))
              · rw [b0] at hb0
                cases b1 : bit1 (p (used S i))
                · rw [b1] at hb1
                  have hq : ∀ i', i' < S.n → i' / 8 = i → fin S p i' = S.sure i' := fun i' a b => by
                    rw [hch i' a b]
                    simp [choose, b0, b1]
                  have HT3 := Lib.hid (tcrash_same hq hT2)
                  clear hx hch hq hT2 b0 b1
                  generalize p (used S i) = x0 at *
                  go_wp2_with fail
                  go_quiet ((go_at_call 51; refine quiet (HSM.out _ (Dr.drewN _ _))))
                  go_wp2_with fail
                  go_quiet (fail)
                  go_wp2_with fail
                  refine ⟨⟨i + 1, _, _, _, by go_num, rfl, by omega, HT3.out.keepE (Keep.dr (Dr.drewN wr _)), ?_, hK2.trans (Keep.dr (Dr.drewN wr _))⟩, by simp [intOf]; omega⟩
                  rw [HU.out]
                  exact Pk.shift (HP3.out.keep (Keep.dr (Dr.drewN wr _)))
                · rw [b1] at hb1
                  have hq : ∀ i', i' < S.n → i' / 8 = i → fin S p i' = S.tk i' := fun i' a b => by
                    rw [hch i' a b]
                    simp [choose, b0, b1, HFL.out]
                  have hst : ∀ W, Dr wr W → TwinE (W.setCell ⟨T.l, i * 4 + 1, none⟩ (.slice Aa na ca)) T D (crashT S p (i + 1)) ∧ Keep [T.l] W (W.setCell ⟨T.l, i * 4 + 1, none⟩ (.slice Aa na ca)) := fun W d => ⟨tcrash_next hq (HSA1.out W d).1, (HSA1.out W d).2⟩
                  have HST := Lib.hid hst
                  clear hx hch hq hT2 b0 b1 hst
                  generalize p (used S i) = x0 at *
                  go_wp2_with fail
                  go_quiet ((go_at_call 51; refine quiet (HSM.out _ (Dr.drewN _ _))))
                  go_wp2_with fail
                  go_quiet (fail)
                  go_wp2_with fail
                  refine ⟨⟨i + 1, _, _, _, by go_num, rfl, by omega, (HST.out _ (Dr.drewN wr _)).1, ?_, (hK2.trans (Keep.dr (Dr.drewN wr _))).trans (TwinE.own (HST.out _ (Dr.drewN wr _)).2)⟩, by simp [intOf]; omega⟩
                  rw [HU.out]
                  exact Pk.shift (HP3.out.keep ((Keep.dr (Dr.drewN wr _)).trans (TwinE.own (HST.out _ (Dr.drewN wr _)).2)))
              · rw [b0] at hb0
                have hq : ∀ i', i' < S.n → i' / 8 = i → fin S p i' = S.now i' := fun i' a b => by
                  rw [hch i' a b]
                  simp [choose, b0]
                have hst : ∀ W, Dr wr W → TwinE (W.setCell ⟨T.l, i * 4 + 1, none⟩ (.slice (some ⟨gn, 0, none⟩) HL cn)) T D (crashT S p (i + 1)) ∧ Keep [T.l] W (W.setCell ⟨T.l, i * 4 + 1, none⟩ (.slice (some ⟨gn, 0, none⟩) HL cn)) := fun W d => ⟨tcrash_next hq (HSN.out W d).1, (HSN.out W d).2⟩
                have HST := Lib.hid hst
                clear hx hch hq hT2 b0 hst hb1
                generalize p (used S i) = x0 at *
                go_wp2_with fail
                go_quiet ((go_at_call 51; refine quiet (HSM.out _ (Dr.drewN _ _))))
                go_wp2_with fail
                go_quiet (fail)
                go_wp2_with fail
                refine ⟨⟨i + 1, _, _, _, by go_num, rfl, by omega, (HST.out _ (Dr.drewN wr _)).1, ?_, (hK2.trans (Keep.dr (Dr.drewN wr _))).trans (TwinE.own (HST.out _ (Dr.drewN wr _)).2)⟩, by simp [intOf]; omega⟩
                rw [HU.out]
                exact Pk.shift (HP3.out.keep ((Keep.dr (Dr.drewN wr _)).trans (TwinE.own (HST.out _ (Dr.drewN wr _)).2)))
            · have i1 : (1 : Int) ≤ m1 := by omega
              have i2 : (m1 : Int) ≤ k1 := by omega
              have i3 : 1 ≤ m1 := by omega
              have i4 : (0 : Int) < m1 := by omega
              have HP3 := Lib.hid (hP2.tail (by omega))
              clear ha1 ha2 ha3 e0 hP2 hm
              cases b0 : bit0 (p (used S i))
              · rw [b0] at hb0
                cases b1 : bit1 (p (used S i))
                · rw [b1] at hb1
                  have hq : ∀ i', i' < S.n → i' / 8 = i → fin S p i' = S.sure i' := fun i' a b => by
                    rw [hch i' a b]
                    simp [choose, b0, b1]
                  have HT3 := Lib.hid (tcrash_same hq hT2)
                  clear hx hch hq hT2 b0 b1
                  generalize p (used S i) = x0 at *
                  go_wp2_with fail
                  go_quiet ((go_at_call 51; refine quiet (HSM.out _ (Dr.drewN _ _))))
                  go_wp2_with fail
                  go_quiet (fail)
                  go_wp2_with fail
                  refine ⟨⟨i + 1, _, _, _, by go_num, rfl, by omega, HT3.out.keepE (Keep.dr (Dr.drewN wr _)), ?_, hK2.trans (Keep.dr (Dr.drewN wr _))⟩, by simp [intOf]; omega⟩
                  rw [HU.out]
                  exact Pk.shift (HP3.out.keep (Keep.dr (Dr.drewN wr _)))
                · rw [b1] at hb1
                  have hq : ∀ i', i' < S.n → i' / 8 = i → fin S p i' = S.tk i' := fun i' a b => by
                    rw [hch i' a b]
                    simp [choose, b0, b1, HFL.out]
                  have hst : ∀ W, Dr wr W → TwinE (W.setCell ⟨T.l, i * 4 + 1, none⟩ (.slice Aa na ca)) T D (crashT S p (i + 1)) ∧ Keep [T.l] W (W.setCell ⟨T.l, i * 4 + 1, none⟩ (.slice Aa na ca)) := fun W d => ⟨tcrash_next hq (HSA1.out W d).1, (HSA1.out W d).2⟩
                  have HST := Lib.hid hst
                  clear hx hch hq hT2 b0 b1 hst
                  generalize p (used S i) = x0 at *
                  go_wp2_with fail
                  go_quiet ((go_at_call 51; refine quiet (HSM.out _ (Dr.drewN _ _))))
                  go_wp2_with fail
                  go_quiet (fail)
                  go_wp2_with fail
                  refine ⟨⟨i + 1, _, _, _, by go_num, rfl, by omega, (HST.out _ (Dr.drewN wr _)).1, ?_, (hK2.trans (Keep.dr (Dr.drewN wr _))).trans (TwinE.own (HST.out _ (Dr.drewN wr _)).2)⟩, by simp [intOf]; omega⟩
                  rw [HU.out]
                  exact Pk.shift (HP3.out.keep ((Keep.dr (Dr.drewN wr _)).trans (TwinE.own (HST.out _ (Dr.drewN wr _)).2)))
              · rw [b0] at hb0
                have hq : ∀ i', i' < S.n → i' / 8 = i → fin S p i' = S.now i' := fun i' a b => by
                  rw [hch i' a b]
                  simp [choose, b0]
                have hst : ∀ W, Dr wr W → TwinE (W.setCell ⟨T.l, i * 4 + 1, none⟩ (.slice (some ⟨gn, 0, none⟩) HL cn)) T D (crashT S p (i + 1)) ∧ Keep [T.l] W (W.setCell ⟨T.l, i * 4 + 1, none⟩ (.slice (some ⟨gn, 0, none⟩) HL cn)) := fun W d => ⟨tcrash_next hq (HSN.out W d).1, (HSN.out W d).2⟩
                have HST := Lib.hid hst
                clear hx hch hq hT2 b0 hst hb1
                generalize p (used S i) = x0 at *
                go_wp2_with fail
                go_quiet ((go_at_call 51; refine quiet (HSM.out _ (Dr.drewN _ _))))
                go_wp2_with fail
                go_quiet (fail)
                go_wp2_with fail
                refine ⟨⟨i + 1, _, _, _, by go_num, rfl, by omega, (HST.out _ (Dr.drewN wr _)).1, ?_, (hK2.trans (Keep.dr (Dr.drewN wr _))).trans (TwinE.own (HST.out _ (Dr.drewN wr _)).2)⟩, by simp [intOf]; omega⟩
                rw [HU.out]
                exact Pk.shift (HP3.out.keep ((Keep.dr (Dr.drewN wr _)).trans (TwinE.own (HST.out _ (Dr.drewN wr _)).2)))
    · have hlt' : ¬ (i : Int) < ((nl S.n : Nat) : Int) := by omega
      obtain rfl : i = nl S.n := by omega
      have hT3 := tcrash_turn hT2
      obtain ⟨X3, fz3, c3, hTx⟩ := id hT3
      have c1 := hTx.c1
      change wr.cell? _ = some (.slice _ (nl S.n) _) at c1
      generalize wr = wo at *
      clear hTx hT2 hP2
      go_wp2_with fail
      go_loopw [80] (fun x wr => RCrash2 w T D S p x wr) (fun x _ => nl S.n - (intOf x).toNat)
      case atStart => exact ⟨0, rfl, by omega, hT3, hK2⟩
      case round =>
        obtain ⟨i, rfl, hi2, hT4, hK4⟩ := hrel
        clear hT3 c1 hK2
        by_cases hlt2 : i < nl S.n
        · have hlt2' : (i : Int) < ((nl S.n : Nat) : Int) := by omega
          obtain ⟨X2, fz2, c2, hT⟩ := id hT4
          have c1 := hT.c1
          have hA := hT.adr (by show 0 < nl S.n; omega)
          rw [hA] at c1
          change wr.cell? _ = some (.slice _ (nl S.n) _) at c1
          have hl : i < nl (crashU S p i).n := hlt2
          have cl0 := hT.lcell hl (show 0 < 4 by omega)
          have cl1 := hT.lcell hl (show 1 < 4 by omega)
          have cl3 := hT.lcell hl (show 3 < 4 by omega)
          have zl := hT.lz hl
          have hok := hT.ok i hl
          rw [hok.fl] at cl3
          obtain ⟨gn, cn, hXn, _, _⟩ := hok.now
          obtain ⟨gs, cs, hXs, _, _⟩ := hok.sure
          rw [hXn, Nat.add_zero] at cl0
          rw [hXs] at cl1
          have hnw := hT.nowAt hl
          rw [hXs] at hnw
          have HNW := Lib.hid (And.intro (tcrash_now hnw.1) hnw.2)
          have lm1 := hT.lm (by show 0 < nl S.n; omega)
          have lm2 : ¬ T.m = T.l := fun e => lm1 e.symm
          clear hnw hT hA hok hXn hXs hT4
          generalize hi (crashU S p i).n i - lo i = HL at *
          go_wp2_with fail
          go_region
          go_wp2_with fail
          obtain ⟨e1, e2⟩ := HNW.out
          exact ⟨⟨i + 1, by go_num, by omega, e1.keepE (Keep.drew _), (hK4.trans (TwinE.own e2)).trans (Keep.drew _)⟩, by simp [intOf]; omega⟩
        · have hlt2' : ¬ (i : Int) < ((nl S.n : Nat) : Int) := by omega
          obtain rfl : i = nl S.n := by omega
          have hd := tcrash_done hT4
          obtain ⟨X2, fz2, c2, hT⟩ := id hT4
          have c3 := hT.c3
          have c4 := hT.c4
          have z := hT.z
          have HD := Lib.hid hd
          clear hd hT hT4
          go_wp2
          go_end0
          exact ⟨rfl, HD.out, (hK4.trans (Keep.setCell _ _ (by simp [TLoc.own]) _)).trans (Keep.setCell _ _ (by simp [TLoc.own]) _)⟩
end Go.Proofs.Ytejhdmpobaffcaa
