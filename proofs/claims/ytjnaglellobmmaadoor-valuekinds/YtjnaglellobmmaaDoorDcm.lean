/-
  The library's functions on decimals and prefixes, value's parseDecimal and the document's own Number: what each returns. Conditions: what the library's tables hold; a text not longer than one may be.
-/
import Derived.Test.YtjnaglellobmmaaDoorShf
import Derived.Test.YtjnaglellobmmaaDoorNum10
import Derived.Test.YtjnaglellobmmaaDoorUHex
import Derived.Test.YtjnaglellobmmaaDoorGrow
import Derived.Lib.AppendIntMem
import Derived.Lib.SmallJoins
import Derived.Lib.IndexBytes
import Derived.ChangeKeysEq
namespace Go.Flo
open Go.RowKit Go.Lib

theorem keep_below {w w' : World} (h : Below w.heap.size w w') : Keep [] w w' := ⟨h.os, h.tape, h.output, h.size, fun k hk _ => h.block k hk⟩

theorem str_beq (a b : ByteArray) : (a.toList == b.toList) = decide (a = b) := by
  have e : a.toList = b.toList ↔ a = b := by
    rw [ByteArray.toList_eq, ByteArray.toList_eq]
    exact ⟨fun h => ByteArray.ext (Array.toList_inj.1 h), fun h => by rw [h]⟩
  rw [Bool.eq_iff_iff]
  simp [e]

/-- A number's decimal. -/
def itoaB (n : Int) : ByteArray := ⟨(itoa n).toArray⟩
/-- What a text is as a decimal of 64 bits in its shortest form. -/
def numB (s : ByteArray) : Option Int := numT s.data.toList

theorem itoaB_eq {n : Int} {s : ByteArray} : itoaB n = s ↔ itoa n = s.data.toList := by
  constructor
  · intro h; rw [← h]; rfl
  · intro h
    unfold itoaB
    rw [h]

theorem numB_itoa {v : Int} (h0 : -9223372036854775808 ≤ v) (h1 : v ≤ 9223372036854775807) : numB (itoaB v) = some v := by
  unfold numB itoaB
  exact numT_itoa h0 h1

theorem numB_some {s : ByteArray} {v : Int} (h : numB s = some v) : itoaB v = s ∧ parseIntB 64 s.data.toList = .ok v ∧ -9223372036854775808 ≤ v ∧ v ≤ 9223372036854775807 := by
  obtain ⟨a, b⟩ := numT_some h
  exact ⟨itoaB_eq.2 a, b⟩

theorem numB_lib {s : ByteArray} {v : Int} (h : parseIntB 64 s.data.toList = .ok v) : numB s = if itoaB v = s then some v else none := by
  unfold numB
  rw [numT_lib, h]
  simp only [itoaB_eq]

theorem numB_no {s : ByteArray} (h : ∀ v, parseIntB 64 s.data.toList ≠ .ok v) : numB s = none := by
  cases e : numB s with
  | none => rfl
  | some v => exact absurd (numB_some e).2.1 (h v)
end Go.Flo
namespace Go.Proofs.YtjnaglellobmmaaDoor
open Go.RowKit Go.Flo
set_option maxRecDepth 100000

/-- What the library's tables hold. -/
structure Tabs (w : World) : Prop where
  t64 : w.cell? ⟨5, 15, none⟩ = some (.int .u8 4)
  pow : Lib.TabIs Tryd.prog w "internal/strconv.uint64pow10" .u64 Lib.pow10Tab
  syn : ∃ t p, w.cell? ⟨2, 0, none⟩ = some (.iface t p)
  rng : ∃ t p, w.cell? ⟨3, 0, none⟩ = some (.iface t p)

theorem Tabs.lt {w : World} (h : Tabs w) : 5 < w.heap.size := World.block_lt_of_cell? w _ h.t64

theorem Tabs.keep {w w' : World} (h : Tabs w) (hk : Keep [] w w') : Tabs w' := by
  have hc : ∀ {b o : Nat} {v : Value}, w.cell? ⟨b, o, none⟩ = some v → w'.cell? ⟨b, o, none⟩ = some v := fun {b o v} hv =>
    (hk.cell (p := ⟨b, o, none⟩) (World.block_lt_of_cell? w _ hv) (by simp)).trans hv
  refine ⟨hc h.t64, Lib.tabBelow_of_tabIs h.pow w' (hk.below (Nat.le_refl _) (by simp)), ?_, ?_⟩
  · obtain ⟨t, p, hv⟩ := h.syn; exact ⟨t, p, hc hv⟩
  · obtain ⟨t, p, hv⟩ := h.rng; exact ⟨t, p, hc hv⟩

theorem fint_any (n : Int) (h0 : -9223372036854775808 ≤ n) (h1 : n ≤ 9223372036854775807) (w : World) (hT : Tabs w) :
    Calls Tryd.prog 43 #[.int .i64 n, .int .i64 10] w fun e w' => e = .returned (.string (itoaB n)) ∧ Keep [] w w' :=
  (Tryd.strconv_FormatInt_10 n h0 h1 w hT.pow).mono fun _ _ ⟨he, k, os, hw⟩ => ⟨he, hw ▸ keep_below (Lib.below_grow _ w (Nat.le_refl _) k os)⟩

theorem itoa_any (n : Int) (h0 : -9223372036854775808 ≤ n) (h1 : n ≤ 9223372036854775807) (w : World) (hT : Tabs w) :
    Calls Tryd.prog 45 #[.int .i64 n] w fun e w' => e = .returned (.string (itoaB n)) ∧ Keep [] w w' :=
  (Tryd.strconv_Itoa n h0 h1 w hT.pow).mono fun _ _ ⟨he, k, os, hw⟩ => ⟨he, hw ▸ keep_below (Lib.below_grow _ w (Nat.le_refl _) k os)⟩

theorem pint_ok (s : ByteArray) (hs : s.size ≤ 281474976710656) (v : Int) (h : Lib.parseIntB 64 s.data.toList = .ok v) (w : World) :
    Calls Tryd.prog 50 #[.string s, .int .i64 10, .int .i64 64] w fun e w' => e = .returned (.tuple #[.int .i64 v, .nilIface]) ∧ Keep [] w w' :=
  (Tryd.strconv_ParseInt_10_at64_ok s (by omega) v h w).mono fun _ _ ⟨he, hw⟩ => ⟨he, by
    rcases hw with rfl | ⟨t, rfl⟩
    · exact Keep.refl _ _
    · exact keep_below (Go.Joins.below_bytesWorld _ w _ t (Nat.le_refl _))⟩

def NoPost (w : World) (e : Ending) (w' : World) : Prop := ∃ n t p, e = .returned (.tuple #[.int .i64 n, .iface t p]) ∧ Keep [] w w'
theorem pint_no (s : ByteArray) (hs : s.size ≤ 281474976710656) (h : ∀ v, Lib.parseIntB 64 s.data.toList ≠ .ok v) (w : World) (hT : Tabs w) :
    Calls Tryd.prog 50 #[.string s, .int .i64 10, .int .i64 64] w (NoPost w) := by
  obtain ⟨t1, p1, h1⟩ := hT.syn
  obtain ⟨t2, p2, h2⟩ := hT.rng
  cases e : Lib.parseIntB 64 s.data.toList with
  | ok v => exact absurd e (h v)
  | range => exact (Any.strconv_ParseInt_10_at64_range Tryd.laysC174 s hs e _ w h2 (Or.inr ⟨_, _, rfl⟩)).mono fun _ _ ⟨N, he, _, _, hb⟩ => ⟨_, _, _, he, keep_below hb⟩
  | _ => exact (Any.strconv_ParseInt_10_at64_syntax Tryd.laysC174 s hs e _ w h1 (Or.inr ⟨_, _, rfl⟩)).mono fun _ _ ⟨N, he, _, _, hb⟩ => ⟨_, _, _, he, keep_below hb⟩

def DecPost (s : ByteArray) (w : World) (e : Ending) (w' : World) : Prop := e = .returned (.tuple #[.int .i64 ((numB s).getD 0), .bool (numB s).isSome]) ∧ Keep [] w w'
theorem pdec_any (s : ByteArray) (hs : s.size ≤ 281474976710656) (w : World) (hT : Tabs w) :
    Calls Tryd.prog 40 #[.string s] w (DecPost s w) := by
  by_cases h : ∃ v, Lib.parseIntB 64 s.data.toList = .ok v
  case neg =>
    have hn := numB_no (fun v e => h ⟨v, e⟩)
    have hp := pint_no s hs (fun v e => h ⟨v, e⟩) w hT
    unfold DecPost
    rw [hn]
    clear hn h
    go_enter Tryd.func40, Tryd.ntmps40
    go_wp2_with fail
    (with_reducible refine hp.mono ?_)
    rintro e w' ⟨n, t, p, rfl, hk⟩
    go_wp2
    go_ret2
    exact ⟨rfl, hk⟩
  obtain ⟨v, hv⟩ := h
  have hb := Lib.parseIntB_bounds hv
  have hb0 : -9223372036854775808 ≤ v := by simpa using hb.1
  have hb1 : v ≤ 9223372036854775807 := by have := hb.2; simp at this; omega
  have hp := pint_ok s hs v hv w
  have hf := fun W (hk : Keep [] w W) => fint_any v hb0 hb1 W (hT.keep hk)
  have hn := numB_lib hv
  unfold DecPost
  rw [hn]
  clear hn hv hb hb0 hb1
  generalize itoaB v = S at *
  by_cases he : S = s
  · subst he
    rw [if_pos rfl]
    have HF := Lib.hid hf
    clear hf
    go_enter Tryd.func40, Tryd.ntmps40
    go_wp2_with fail
    (with_reducible refine hp.mono ?_)
    rintro e w1 ⟨rfl, hk⟩
    go_wp2_with fail
    (with_reducible refine (HF.out _ hk).mono ?_)
    rintro e w2 ⟨rfl, hk2⟩
    go_wp2
    go_ret2
    exact ⟨rfl, hk.trans hk2⟩
  · rw [if_neg he]
    have hq : (S.toList == s.toList) = false := by rw [str_beq]; exact decide_eq_false he
    have HF := Lib.hid hf
    clear hf
    go_enter Tryd.func40, Tryd.ntmps40
    go_wp2_with fail
    (with_reducible refine hp.mono ?_)
    rintro e w1 ⟨rfl, hk⟩
    go_wp2_with fail
    (with_reducible refine (HF.out _ hk).mono ?_)
    rintro e w2 ⟨rfl, hk2⟩
    go_wp2
    go_ret2
    exact ⟨rfl, hk.trans hk2⟩

theorem cut_yes (c : UInt8) (s : ByteArray) (h : s.data.toList.head? = some c) (w : World) :
    Calls Tryd.prog 38 #[.string s, .string ⟨#[c]⟩] w fun e w' => e = .returned (.tuple #[.string (s.extract 1 s.size), .bool true]) ∧ w = w' :=
  (Tryd.strings_CutPrefix s ⟨#[c]⟩ w).mono fun _ _ ⟨he, hw⟩ => by
    obtain ⟨r, hr⟩ : ∃ r, s.data.toList = c :: r := by
      cases hl : s.data.toList with
      | nil => rw [hl] at h; cases h
      | cons x r => rw [hl] at h; simp at h; subst h; exact ⟨r, rfl⟩
    have hp : Lib.hasPrefix s.data.toList (⟨#[c]⟩ : ByteArray).data.toList = true := by
      rw [hr]
      simp [Lib.hasPrefix]
    have ht : (⟨(Lib.trimPrefix s.data.toList (⟨#[c]⟩ : ByteArray).data.toList).toArray⟩ : ByteArray) = s.extract 1 s.size := by
      apply ByteArray.ext
      apply Array.toList_inj.1
      rw [Lib.extract_to_end]
      unfold Lib.trimPrefix
      rw [if_pos hp]
      rfl
    rw [ht, hp] at he
    exact ⟨he, hw.symm⟩

theorem cut_no (c : UInt8) (s : ByteArray) (h : s.data.toList.head? ≠ some c) (w : World) :
    Calls Tryd.prog 38 #[.string s, .string ⟨#[c]⟩] w fun e w' => e = .returned (.tuple #[.string s, .bool false]) ∧ w = w' :=
  (Tryd.strings_CutPrefix s ⟨#[c]⟩ w).mono fun _ _ ⟨he, hw⟩ => by
    have hp : Lib.hasPrefix s.data.toList (⟨#[c]⟩ : ByteArray).data.toList = false := by
      cases hl : s.data.toList with
      | nil => rfl
      | cons x r =>
        rw [hl] at h
        have hx : ¬ c = x := fun e => h (by rw [e]; rfl)
        simp [Lib.hasPrefix, List.isPrefixOf, hx]
    have ht : (⟨(Lib.trimPrefix s.data.toList (⟨#[c]⟩ : ByteArray).data.toList).toArray⟩ : ByteArray) = s := by
      unfold Lib.trimPrefix
      rw [if_neg (by rw [hp]; simp)]
    rw [ht, hp] at he
    exact ⟨he, hw.symm⟩
end Go.Proofs.YtjnaglellobmmaaDoor
