/-
  Several texts in one: Sa Sb Sc Sd Sp Sj Sk.
-/
import Derived.Test.YtjlpfhioacphkaaMsbh
import Derived.Test.YtjlpfhioacphkaaMsas
import Derived.Test.YtjlpfhioacphkaaMsal
import Derived.Test.YtjlpfhioacphkaaMsax
import Derived.Deep.QuietTactic
import Derived.IntWalk
import Derived.WalkSpells
import Derived.Deep.RegionHeld3
/-
  Slots of a heap page: numbers of two bytes, where a slot stands; the library's ContainsFunc, Clone.
-/
namespace Go.Proofs.Ytjlpfhioacphkaa
section
set_option linter.unusedSimpArgs false
set_option linter.unusedVariables false
open Go.RowKit

/-- A number of two bytes that stands somewhere. -/
def two (l : List UInt8) (i : Nat) : Nat := 256 * (l.getD i 0).toNat + (l.getD (i + 1) 0).toNat
theorem two_lt (l : List UInt8) (i : Nat) : two l i < 65536 := by
  unfold two
  have := (l.getD i 0).toNat_lt
  have := (l.getD (i + 1) 0).toNat_lt
  omega
theorem or_i64 (x b : UInt8) : bits .or .i64 ((x.toNat : Int) * 256) (b.toNat : Int) = ((256 * x.toNat + b.toNat : Nat) : Int) := by
  have hb := b.toNat_lt
  have hx := x.toNat_lt
  have h1 : (x.toNat : Int) * 256 = ((256 * x.toNat : Nat) : Int) := by omega
  rw [h1]
  show IntKind.i64.wrap ((BitVec.ofInt 64 ((256 * x.toNat : Nat) : Int) ||| BitVec.ofInt 64 (b.toNat : Int)).toNat : Int) = _
  have e1 : (BitVec.ofInt 64 ((256 * x.toNat : Nat) : Int)).toNat = 256 * x.toNat := by rw [BitVec.toNat_ofInt]; omega
  have e2 : (BitVec.ofInt 64 (b.toNat : Int)).toNat = b.toNat := by rw [BitVec.toNat_ofInt]; omega
  rw [BitVec.toNat_or, e1, e2, or_nat]
  simp [IntKind.wrap, IntKind.bits, IntKind.signed]; omega
end
end Go.Proofs.Ytjlpfhioacphkaa
/-
  Slots of a heap page: the library's ContainsFunc over bytes that are not 0.
-/
namespace Go.Proofs.Ytjlpfhioacphkaa
section
set_option linter.unusedSimpArgs false
set_option linter.unusedVariables false
open Go.RowKit

/-- All bytes are 0. -/
def allZ (l : List UInt8) : Bool := l.all (· == 0)
theorem allZ_take {l : List UInt8} {k : Nat} {x : UInt8} (h : l[k]? = some x) : allZ (l.take (k + 1)) = (allZ (l.take k) && (x == 0)) := by
  unfold allZ
  rw [List.take_add_one, h]; simp
theorem allZ_false {l : List UInt8} {k : Nat} {x : UInt8} (h : l[k]? = some x) (hx : x ≠ 0) : allZ l = false := by
  unfold allZ
  rw [List.all_eq_false]
  exact ⟨x, List.mem_of_getElem? h, by simpa using hx⟩
end
end Go.Proofs.Ytjlpfhioacphkaa
/-
  Slots of a heap page: where its records stand (places).
-/
namespace Go.Proofs.Ytjlpfhioacphkaa
section
set_option linter.unusedSimpArgs false
set_option linter.unusedVariables false
open Go.RowKit

/-- Where the bytes of the first i records begin, if they stand as they must. -/
def endK (l : List UInt8) : Nat → Option Nat
  | 0 => some 512
  | i + 1 => (endK l i).bind fun e => if two l (8 + 4 * i + 2) ≠ 0 ∧ two l (8 + 4 * i) + two l (8 + 4 * i + 2) = e then some (two l (8 + 4 * i)) else none
theorem endK_le (l : List UInt8) : ∀ i e, endK l i = some e → e ≤ 512
  | 0, e, h => by injection h with h; omega
  | i + 1, e, h => by
    rw [endK] at h
    rcases hk : endK l i with _ | e'
    · rw [hk] at h; cases h
    · rw [hk, Option.bind_some] at h
      have := endK_le l i e' hk
      split at h
      · rename_i hc
        injection h with h
        omega
      · cases h
theorem endK_none (l : List UInt8) (i : Nat) (h : endK l i = none) : ∀ j, i ≤ j → endK l j = none := by
  intro j hj
  induction j with
  | zero => have : i = 0 := by omega
            subst this; exact h
  | succ j ih =>
    by_cases e : i = j + 1
    · subst e; exact h
    · rw [endK, ih (by omega)]; rfl
def pageEnd (l : List UInt8) : Bool := match endK l (hdC l) with
  | none => false
  | some e => decide (8 + 4 * hdC l ≤ e) && allZ ((l.drop (8 + 4 * hdC l)).take (e - (8 + 4 * hdC l)))
/-- Bytes that are a heap page. -/
def isPage (l : List UInt8) : Bool := hdOk l && (hdK l == 1 && (decide (8 + 4 * hdC l ≤ 512) && pageEnd l))
def plc (l : List UInt8) (i : Nat) : List Value := [.int .i64 (two l (8 + 4 * i) : Nat), .int .i64 (two l (8 + 4 * i + 2) : Nat)]
def plV (l : List UInt8) (m : Nat) : List Value := (List.range m).flatMap (plc l)
theorem plV_succ (l : List UInt8) (m : Nat) : plV l (m + 1) = plV l m ++ plc l m := by simp [plV, List.range_succ]
theorem plV_len (l : List UInt8) (m : Nat) : (plV l m).length = m * 2 := by
  induction m with
  | zero => rfl
  | succ m ih => rw [plV_succ, List.length_append, ih]; simp [plc]; omega
/-- The places while they are laid. -/
def plP (l : List UInt8) (c i : Nat) : Array Value := (plV l i ++ List.replicate ((c - i) * 2) (Value.int .i64 0)).toArray
theorem plP_zero (l : List UInt8) (c : Nat) : madeCells #[.int .i64 0, .int .i64 0] (c * 2) = plP l c 0 := by
  unfold plP
  apply Array.ext
  · simp [size_madeCells, plV]
  · intro j h1 h2
    have : j % 2 = 0 ∨ j % 2 = 1 := by omega
    rcases this with h | h <;> simp [madeCells, plV, h]
theorem plP_at (l : List UInt8) (c i j : Nat) (h : i < c) (hj : j < 2) : (plP l c i)[i * 2 + j]? = some (.int .i64 0) := by
  unfold plP
  rw [List.getElem?_toArray, List.getElem?_append_right (by rw [plV_len]; omega), plV_len, List.getElem?_replicate, if_pos (by omega)]
theorem plP_set (l : List UInt8) (c i : Nat) (h : i < c) : ((plP l c i).setIfInBounds (i * 2) (.int .i64 (two l (8 + 4 * i) : Nat))).setIfInBounds (i * 2 + 1) (.int .i64 (two l (8 + 4 * i + 2) : Nat)) = plP l c (i + 1) := by
  unfold plP
  have e : (c - i) * 2 = (c - (i + 1)) * 2 + 1 + 1 := by omega
  rw [e, List.replicate_succ, List.replicate_succ, List.setIfInBounds_toArray, List.setIfInBounds_toArray, List.set_append_right _ _ (by rw [plV_len]; omega), plV_len, Nat.sub_self, List.set_cons_zero,
    List.set_append_right _ _ (by rw [plV_len]; omega), plV_len, show i * 2 + 1 - i * 2 = 0 + 1 from by omega, List.set_cons_succ, List.set_cons_zero, plV_succ, List.append_assoc]
  rfl
theorem plP_get (l : List UInt8) (c i : Nat) : (plP l c (i + 1))[i * 2]? = some (.int .i64 (two l (8 + 4 * i) : Nat)) := by
  unfold plP
  rw [List.getElem?_toArray, plV_succ, List.append_assoc, List.getElem?_append_right (by rw [plV_len]; omega), plV_len, Nat.sub_self]
  rfl
theorem plP_end (l : List UInt8) (c : Nat) : (plP l c c).toList = plV l c := by simp [plP]

/-- What places leaves. -/
def RetPl (w : World) (l : List UInt8) (e : Ending) (w' : World) : Prop :=
  ∃ Ap m cp, e = .returned (.tuple #[.slice Ap m cp, .bool (isPage l)]) ∧ m = (if isPage l then hdC l else 0) ∧ Reads w' w'.heap.size 2 Ap m (plV l m) ∧ m ≤ cp ∧ Below w.heap.size w w'
theorem RetPl.no {w w' : World} {l : List UInt8} (h : isPage l = false) (hb : Below w.heap.size w w') : RetPl w l (.returned (.tuple #[.slice none 0 0, .bool false])) w' :=
  ⟨none, 0, 0, by rw [h], by rw [h]; rfl, Reads.none_, by omega, hb⟩
end
end Go.Proofs.Ytjlpfhioacphkaa
/-
  Slots of a heap page: May, Count, free, room, Room; Clone, record.
-/
namespace Go.Proofs.Ytjlpfhioacphkaa
section
set_option linter.unusedSimpArgs false
set_option linter.unusedVariables false
open Go.RowKit

def pE (l : List UInt8) : Nat := (endK l (hdC l)).getD 0
def pC (l : List UInt8) : Nat := if isPage l then hdC l else 0
def pRoom (l : List UInt8) : Nat := if isPage l then pE l - (12 + 4 * hdC l) else 0
theorem page_end {l : List UInt8} (h : isPage l = true) : endK l (hdC l) = some (pE l) ∧ hdC l ≤ 126 ∧ 8 + 4 * hdC l ≤ pE l ∧ pE l ≤ 512 ∧ l.length = 512 := by
  unfold isPage at h
  simp only [Bool.and_eq_true, decide_eq_true_eq] at h
  obtain ⟨h1, h2, h3, h4⟩ := h
  unfold pageEnd at h4
  unfold pE
  rcases he : endK l (hdC l) with _ | e
  · rw [he] at h4; cases h4
  · rw [he] at h4
    simp only [Bool.and_eq_true, decide_eq_true_eq] at h4
    have := endK_le l _ e he
    unfold hdOk at h1
    simp at h1
    exact ⟨rfl, by omega, h4.1, this, h1.1⟩
section
variable {w : World} {A : Option Addr} {n c B : Nat} {l : List UInt8}
theorem Reads.plc {Ap : Option Addr} {m k : Nat} (hr : Reads w B 2 Ap m (plV l m)) (hk : k < m) : ∃ ad, Ap = some ad ∧ ad.block < B ∧ w.cell? (ad.add (k * 2)) = some (.int .i64 (two l (8 + 4 * k) : Nat)) ∧ w.cell? ⟨(ad.add (k * 2)).block, (ad.add (k * 2)).off + 1, none⟩ = some (.int .i64 (two l (8 + 4 * k + 2) : Nat)) := by
  obtain ⟨ad, hA, hb, hc⟩ := hr.2 (by omega)
  have hv : ∀ j, j < 2 → (plV l m)[k * 2 + j]? = (Go.Proofs.Ytjlpfhioacphkaa.plc l k)[j]? := by
    intro j hj
    refine flat_at (Go.Proofs.Ytjlpfhioacphkaa.plc l) 2 (List.range m) k k j (fun _ _ => rfl) ?_ hj
    rw [List.getElem?_range hk]
  refine ⟨ad, hA, hb, ?_, ?_⟩
  · have := hc (k * 2 + 0) _ (by rw [hv 0 (by omega)]; rfl)
    simpa using this
  · rw [field_add _ _ _ (by omega)]
    exact hc (k * 2 + 1) _ (by rw [hv 1 (by omega)]; rfl)
/-- What Clone leaves. -/
def RetCl (w : World) (l : List UInt8) (e : Ending) (w' : World) : Prop := ∃ A c, e = .returned (.slice A l.length c) ∧ Own w' w.heap.size (.slice A l.length c) l ∧ l.length ≤ c ∧ Below w.heap.size w w'
theorem clone_any (hr : Reads w B 1 A n (bL l)) (hB : B ≤ w.heap.size) (hn : n ≤ 1000000) : Calls Try.prog 82 #[.slice A n c] w (RetCl w l) := by
  have hl := hr.bytes_len
  have nl := fun W => Lib.run_eql_slice_nil (P := Try.prog) W 27 5 A n c 0 0 Try.underlying27
  rcases A with _ | ad
  · have h0 : n = 0 := by
      rcases Nat.eq_zero_or_pos n with h0 | h0
      · exact h0
      · obtain ⟨ad, h, _⟩ := hr.2 h0; cases h
    subst h0
    have : l = [] := List.eq_nil_of_length_eq_zero hl
    subst this
    clear hr
    go_enter Try.func82, Try.ntmps82
    go_wp2
    go_ret
    exact ⟨none, 0, rfl, Own.nil _ _, Nat.le_refl _, Below.refl _ _⟩
  · have own0 := Own.empty w (g := w.heap.size) rfl
    have hr0 := hr.alloc hB (.cells #[] 5)
    have hz0 : w.heap.size ≤ (w.alloc (.cells #[] 5)).heap.size := by simp
    have Hl := Lib.hid hl; clear hl
    clear hr
    go_enter Try.func82, Try.ntmps82
    go_wp2_with (at_builtin; refine wpList_appR rfl _ _ rfl w.heap.size _ [] l (some ad) n c B rfl own0 rfl hr0 (by rw [Hl.out]; simp; omega) hz0 ?_; intro v1 w1 own1 kp1; rw [List.nil_append] at own1; obtain ⟨A1, c1, rfl, hc1⟩ := own1.form)
    have hb1 := kp1.below w.heap.size w (Nat.le_refl _) (ball (Below.refl _ _) _)
    clear own0 hr0 hz0 kp1
    go_ret
    exact ⟨A1, c1, rfl, own1, hc1, hb1⟩
end
end
end Go.Proofs.Ytjlpfhioacphkaa
/-
  Slots of a heap page: a page as its records (pure facts on lists).
-/
namespace Go.Proofs.Ytjlpfhioacphkaa
section
set_option linter.unusedSimpArgs false
set_option linter.unusedVariables false
open Go.RowKit

/-- The i-th record of a page. -/
def recK (l : List UInt8) (i : Nat) : List UInt8 := (l.drop (two l (8 + 4 * i))).take (two l (8 + 4 * i + 2))
theorem endK_some {l : List UInt8} {m e : Nat} (h : endK l m = some e) {k : Nat} (hk : k < m) : ∃ f, endK l k = some f ∧ f ≤ 512 ∧ two l (8 + 4 * k + 2) ≠ 0 ∧ two l (8 + 4 * k) + two l (8 + 4 * k + 2) = f ∧ endK l (k + 1) = some (two l (8 + 4 * k)) := by
  rcases h0 : endK l (k + 1) with _ | x
  · rw [endK_none l (k + 1) h0 m hk] at h; cases h
  · rw [endK] at h0
    rcases h1 : endK l k with _ | f
    · rw [h1] at h0; cases h0
    · rw [h1, Option.bind_some] at h0
      split at h0
      · rename_i hc
        injection h0 with h0
        exact ⟨f, rfl, endK_le l k f h1, hc.1, hc.2, by rw [h0]⟩
      · cases h0
theorem recK_len {l : List UInt8} {m e : Nat} (hl : l.length = 512) (h : endK l m = some e) {k : Nat} (hk : k < m) : (recK l k).length = two l (8 + 4 * k + 2) := by
  obtain ⟨f, _, h2, _, h3, _⟩ := endK_some h hk
  unfold recK
  rw [List.length_take, List.length_drop]; omega
/-- The records, the last one first. -/
def bk (rs : List (List UInt8)) : List UInt8 := rs.reverse.flatten
theorem bk_snoc (rs : List (List UInt8)) (r : List UInt8) : bk (rs ++ [r]) = r ++ bk rs := by simp [bk]
theorem bk_app (a b : List (List UInt8)) : bk (a ++ b) = bk b ++ bk a := by simp [bk]
theorem bk_cons (r : List UInt8) (rs : List (List UInt8)) : bk (r :: rs) = bk rs ++ r := by simp [bk]
/-- The slots of records that end at e. -/
def slB : Nat → List (List UInt8) → List UInt8
  | _, [] => []
  | e, r :: rs => be 2 (e - r.length) ++ (be 2 r.length ++ slB (e - r.length) rs)
theorem slB_len : ∀ (rs : List (List UInt8)) (e : Nat), (slB e rs).length = 4 * rs.length
  | [], _ => rfl
  | r :: rs, e => by rw [slB, List.length_append, List.length_append, be_len, be_len, slB_len rs, List.length_cons]; omega
theorem slB_snoc : ∀ (rs : List (List UInt8)) (e : Nat) (r : List UInt8), slB e (rs ++ [r]) = slB e rs ++ (be 2 (e - (bk rs).length - r.length) ++ be 2 r.length)
  | [], e, r => by simp [slB, bk]
  | x :: rs, e, r => by
    rw [List.cons_append, slB, slB_snoc rs (e - x.length) r, slB, bk_cons, List.length_append]
    rw [show e - x.length - (bk rs).length - r.length = e - ((bk rs).length + x.length) - r.length from by omega]
    simp only [List.append_assoc]
def hd8 (m next : Nat) : List UInt8 := [1, 0] ++ be 2 m ++ be 4 next
theorem hd8_len (m next : Nat) : (hd8 m next).length = 8 := by simp [hd8, be_len]
theorem hd8_of (m next : Nat) : (headL 1 m next).take 8 = hd8 m next := by
  unfold headL headP
  rw [List.take_append_of_le_length (by simp [be_len]), show (be 4 next).take 4 = be 4 next from List.take_of_length_le (by rw [be_len]; omega)]
  exact List.take_of_length_le (by simp [be_len])
def zs (n : Nat) : List UInt8 := List.replicate n 0
theorem zs_len (n : Nat) : (zs n).length = n := List.length_replicate
theorem zs_add (a b : Nat) : zs (a + b) = zs a ++ zs b := by simp [zs, List.replicate_append_replicate]
def tot (rs : List (List UInt8)) : Nat := (bk rs).length
theorem tot_snoc (rs : List (List UInt8)) (r : List UInt8) : tot (rs ++ [r]) = tot rs + r.length := by unfold tot; rw [bk_snoc, List.length_append]; omega
theorem tot_cons (rs : List (List UInt8)) (r : List UInt8) : tot (r :: rs) = tot rs + r.length := by unfold tot; rw [bk_cons, List.length_append]
theorem tot_app (a b : List (List UInt8)) : tot (a ++ b) = tot a + tot b := by unfold tot; rw [bk_app, List.length_append]; omega
/-- A page with these records. -/
def layL (next : Nat) (rs : List (List UInt8)) : List UInt8 := hd8 rs.length next ++ (slB 512 rs ++ (zs (504 - 4 * rs.length - tot rs) ++ bk rs))
/-- Records that have room. -/
def Fits (rs : List (List UInt8)) : Prop := 8 + 4 * rs.length + tot rs ≤ 512 ∧ ∀ r ∈ rs, r ≠ []
theorem Fits.nil : Fits [] := ⟨by simp [tot, bk], by simp⟩
theorem Fits.snoc {rs : List (List UInt8)} (h : Fits rs) {r : List UInt8} (hr : r ≠ []) (hm : r.length + (8 + 4 * (rs.length + 1) + tot rs) ≤ 512) : Fits (rs ++ [r]) := by
  refine ⟨?_, ?_⟩
  · rw [tot_snoc, List.length_append]; simp; omega
  · intro x hx
    rcases List.mem_append.1 hx with hx | hx
    · exact h.2 x hx
    · rw [List.mem_singleton] at hx; subst hx; exact hr
theorem layL_len {next : Nat} {rs : List (List UInt8)} (h : Fits rs) : (layL next rs).length = 512 := by
  have := h.1
  unfold layL
  simp only [List.length_append, hd8_len, slB_len, zs_len]
  unfold tot at *
  omega
theorem lay_hd {next : Nat} {rs : List (List UInt8)} (h : Fits rs) : hdOk (layL next rs) = true ∧ hdK (layL next rs) = 1 := by
  refine ⟨?_, rfl⟩
  unfold hdOk
  rw [layL_len h]
  rfl
theorem beVal_be2 (m : Nat) (h : m < 65536) : 256 * (UInt8.ofNat (m / 256)).toNat + (UInt8.ofNat m).toNat = m := by simp; omega
theorem be2_eq (m : Nat) : be 2 m = [UInt8.ofNat (m / 256), UInt8.ofNat m] := by simp [be]
theorem lay_C {next : Nat} {rs : List (List UInt8)} (h : Fits rs) : hdC (layL next rs) = rs.length := by
  have hm : rs.length < 65536 := by have := h.1; omega
  rw [hdC_eq (l := layL next rs) (x := UInt8.ofNat (rs.length / 256)) (y := UInt8.ofNat rs.length) (by unfold layL hd8; rw [be2_eq]; rfl) (by unfold layL hd8; rw [be2_eq]; rfl)]
  exact beVal_be2 _ hm
theorem slB_at : ∀ (rs : List (List UInt8)) (e i : Nat) (r : List UInt8), rs[i]? = some r → (slB e rs).drop (4 * i) = be 2 (e - tot (rs.take i) - r.length) ++ (be 2 r.length ++ slB (e - tot (rs.take i) - r.length) (rs.drop (i + 1)))
  | [], e, i, r, h => by simp at h
  | x :: rs, e, 0, r, h => by
    simp only [List.getElem?_cons_zero, Option.some.injEq] at h
    subst h
    simp [slB, tot, bk]
  | x :: rs, e, i + 1, r, h => by
    simp only [List.getElem?_cons_succ] at h
    rw [slB, ← List.append_assoc, show 4 * (i + 1) = 4 + 4 * i from by omega, ← List.drop_drop, List.drop_left' (by rw [List.length_append, be_len, be_len]), slB_at rs _ i r h, List.take_succ_cons, tot_cons, List.drop_succ_cons]
    rw [show e - x.length - tot (rs.take i) - r.length = e - (tot (rs.take i) + x.length) - r.length from by omega]
theorem two_of {l : List UInt8} {i m : Nat} {t : List UInt8} (h : l.drop i = be 2 m ++ t) (hm : m < 65536) : two l i = m := by
  unfold two
  have h0 : l.getD i 0 = UInt8.ofNat (m / 256) := by
    have : l[i]? = (l.drop i)[0]? := by rw [List.getElem?_drop]; rfl
    rw [List.getD_eq_getElem?_getD, this, h, be2_eq]; rfl
  have h1 : l.getD (i + 1) 0 = UInt8.ofNat m := by
    have : l[i + 1]? = (l.drop i)[1]? := by rw [List.getElem?_drop]
    rw [List.getD_eq_getElem?_getD, this, h, be2_eq]; rfl
  rw [h0, h1]
  exact beVal_be2 m hm
theorem lay_drop8 (next : Nat) (rs : List (List UInt8)) : (layL next rs).drop 8 = slB 512 rs ++ (zs (504 - 4 * rs.length - tot rs) ++ bk rs) := List.drop_left' (hd8_len _ _)
theorem tot_take_succ {rs : List (List UInt8)} {i : Nat} {r : List UInt8} (h : rs[i]? = some r) : tot (rs.take (i + 1)) = tot (rs.take i) + r.length := by
  rw [List.take_add_one, h]; exact tot_snoc _ _
theorem tot_take_le (rs : List (List UInt8)) (i : Nat) : tot (rs.take i) ≤ tot rs := by
  have h := tot_app (rs.take i) (rs.drop i)
  rw [List.take_append_drop] at h
  omega
theorem lay_two {next : Nat} {rs : List (List UInt8)} (h : Fits rs) {i : Nat} {r : List UInt8} (hr : rs[i]? = some r) :
    two (layL next rs) (8 + 4 * i) = 512 - tot (rs.take (i + 1)) ∧ two (layL next rs) (8 + 4 * i + 2) = r.length := by
  have hi := lt_of_at hr
  have ht := tot_take_le rs (i + 1)
  have hs := tot_take_succ hr
  have h1 := h.1
  have hd : (layL next rs).drop (8 + 4 * i) = be 2 (512 - tot (rs.take i) - r.length) ++ (be 2 r.length ++ (slB (512 - tot (rs.take i) - r.length) (rs.drop (i + 1)) ++ (zs (504 - 4 * rs.length - tot rs) ++ bk rs))) := by
    rw [← List.drop_drop, lay_drop8, List.drop_append_of_le_length (by rw [slB_len]; omega), slB_at rs 512 i r hr]
    simp only [List.append_assoc]
  refine ⟨?_, ?_⟩
  · rw [two_of hd (by omega)]; omega
  · refine two_of (t := slB (512 - tot (rs.take i) - r.length) (rs.drop (i + 1)) ++ (zs (504 - 4 * rs.length - tot rs) ++ bk rs)) ?_ (by omega)
    rw [← List.drop_drop, hd]
    exact List.drop_left' (be_len _ _)
theorem lay_end {next : Nat} {rs : List (List UInt8)} (h : Fits rs) : ∀ i, i ≤ rs.length → endK (layL next rs) i = some (512 - tot (rs.take i))
  | 0, _ => rfl
  | i + 1, hi => by
    have hr : rs[i]? = some (rs[i]'(by omega)) := List.getElem?_eq_getElem (by omega)
    obtain ⟨t1, t2⟩ := lay_two (next := next) h hr
    have hs := tot_take_succ hr
    have ht := tot_take_le rs (i + 1)
    have h1 := h.1
    have hne : (rs[i]'(by omega)).length ≠ 0 := fun e => h.2 _ (List.getElem_mem (by omega)) (List.eq_nil_of_length_eq_zero e)
    rw [endK, lay_end h i (by omega), Option.bind_some, t1, t2, if_pos ⟨hne, by omega⟩]
theorem allZ_zs (n : Nat) : allZ (zs n) = true := by
  unfold allZ zs
  simp
theorem lay_page {next : Nat} {rs : List (List UInt8)} (h : Fits rs) : isPage (layL next rs) = true := by
  have h1 := h.1
  obtain ⟨a, b⟩ := lay_hd (next := next) h
  have c := lay_C (next := next) h
  have e := lay_end (next := next) h rs.length (Nat.le_refl _)
  rw [List.take_length] at e
  unfold isPage pageEnd
  rw [a, b, c, e]
  simp only
  have hz : ((layL next rs).drop (8 + 4 * rs.length)).take (512 - tot rs - (8 + 4 * rs.length)) = zs (504 - 4 * rs.length - tot rs) := by
    rw [← List.drop_drop, lay_drop8, List.drop_left' (slB_len _ _), List.take_append_of_le_length (by rw [zs_len]; omega)]
    exact List.take_of_length_le (by rw [zs_len]; omega)
  rw [hz, allZ_zs]
  simp; omega
theorem lay_rec {next : Nat} {rs : List (List UInt8)} (h : Fits rs) {i : Nat} {r : List UInt8} (hr : rs[i]? = some r) : recK (layL next rs) i = r := by
  have hi := lt_of_at hr
  have h1 := h.1
  obtain ⟨t1, t2⟩ := lay_two (next := next) h hr
  have hs := tot_take_succ hr
  unfold recK
  rw [t1, t2]
  have e1 : rs = rs.take i ++ (r :: rs.drop (i + 1)) := by
    have := List.take_append_drop i rs
    rw [List.drop_eq_getElem_cons hi] at this
    rw [List.getElem?_eq_getElem hi] at hr
    injection hr with hr
    rw [hr] at this
    exact this.symm
  have e2 : bk rs = bk (rs.drop (i + 1)) ++ (r ++ bk (rs.take i)) := by
    have : bk rs = bk (rs.take i ++ (r :: rs.drop (i + 1))) := by rw [← e1]
    rw [this, bk_app, bk_cons, List.append_assoc]
  have e3 : tot rs = tot (rs.take (i + 1)) + tot (rs.drop (i + 1)) := by
    have := tot_app (rs.take (i + 1)) (rs.drop (i + 1))
    rwa [List.take_append_drop] at this
  have e4 : layL next rs = (hd8 rs.length next ++ (slB 512 rs ++ (zs (504 - 4 * rs.length - tot rs) ++ bk (rs.drop (i + 1))))) ++ (r ++ bk (rs.take i)) := by
    unfold layL
    rw [e2]
    simp only [List.append_assoc]
  rw [e4, List.drop_left' (by simp only [List.length_append, hd8_len, slB_len, zs_len]; unfold tot at *; omega)]
  exact List.take_left' rfl
theorem bk_nil : bk [] = [] := rfl
theorem lay_new (next : Nat) : headL 1 0 next = layL next [] := by
  unfold headL headP layL hd8
  rw [show (be 4 next).take 4 = be 4 next from List.take_of_length_le (by rw [be_len]; omega), show tot [] = 0 from rfl, bk_nil, List.append_nil]
  show _ ++ List.replicate (508 - 4) 0 = _ ++ ([] ++ zs (504 - 4 * 0 - 0))
  rw [List.nil_append, List.length_nil, zs]
theorem lay_link (next other : Nat) (rs : List (List UInt8)) : (headL 1 rs.length other).take 8 ++ (layL next rs).drop 8 = layL other rs := by
  rw [hd8_of, lay_drop8]; rfl
/-- What Add makes of a page: the record's bytes, its slot, the count. -/
def addL (l r : List UInt8) (m e : Nat) : List UInt8 :=
  (((((splice l (e - r.length) r).set (8 + 4 * m) (UInt8.ofNat ((e - r.length) / 256))).set (8 + 4 * m + 1) (UInt8.ofNat (e - r.length))).set (8 + 4 * m + 2) (UInt8.ofNat (r.length / 256))).set (8 + 4 * m + 3) (UInt8.ofNat r.length) |>.set 2 (UInt8.ofNat ((m + 1) / 256))).set 3 (UInt8.ofNat (m + 1))
theorem addL_len (l r : List UInt8) (m e : Nat) (h : e ≤ l.length) (hr : r.length ≤ e) : (addL l r m e).length = l.length := by
  unfold addL splice
  simp only [List.length_set, List.length_append, List.length_take, List.length_drop]
  omega
theorem lay_add (next : Nat) {rs : List (List UInt8)} (r : List UInt8) (hm : r.length + (8 + 4 * (rs.length + 1) + tot rs) ≤ 512) : addL (layL next rs) r rs.length (512 - tot rs) = layL next (rs ++ [r]) := by
  have e0 : layL next rs = (hd8 rs.length next ++ (slB 512 rs ++ (zs 4 ++ zs (500 - 4 * rs.length - tot rs - r.length)))) ++ (zs r.length ++ bk rs) := by
    unfold layL
    rw [show 504 - 4 * rs.length - tot rs = 4 + (500 - 4 * rs.length - tot rs - r.length) + r.length from by omega, zs_add, zs_add]
    simp only [List.append_assoc]
  have hlen : (hd8 rs.length next ++ (slB 512 rs ++ (zs 4 ++ zs (500 - 4 * rs.length - tot rs - r.length)))).length = 512 - tot rs - r.length := by
    simp only [List.length_append, hd8_len, slB_len, zs_len]; omega
  have e1 : splice (layL next rs) (512 - tot rs - r.length) r = hd8 rs.length next ++ (slB 512 rs ++ (zs 4 ++ (zs (500 - 4 * rs.length - tot rs - r.length) ++ (r ++ bk rs)))) := by
    unfold splice
    rw [e0, List.take_left' hlen, ← List.append_assoc (hd8 rs.length next ++ _) (zs r.length) (bk rs), List.drop_left' (by rw [List.length_append, hlen, zs_len])]
    simp only [List.append_assoc]
  unfold addL
  rw [e1]
  have hb : ∀ (x : List UInt8) (k : Nat) (b : UInt8), (hd8 rs.length next ++ (slB 512 rs ++ x)).set (8 + 4 * rs.length + k) b = hd8 rs.length next ++ (slB 512 rs ++ x.set k b) := by
    intro x k b
    rw [List.set_append_right _ _ (by rw [hd8_len]; omega), hd8_len, List.set_append_right _ _ (by rw [slB_len]; omega), slB_len]
    congr 3
    omega
  have b0 := hb (zs 4 ++ (zs (500 - 4 * rs.length - tot rs - r.length) ++ (r ++ bk rs))) 0
  rw [Nat.add_zero] at b0
  rw [b0, hb, hb, hb]
  have hz : ((((zs 4 ++ (zs (500 - 4 * rs.length - tot rs - r.length) ++ (r ++ bk rs))).set 0 (UInt8.ofNat ((512 - tot rs - r.length) / 256))).set 1 (UInt8.ofNat (512 - tot rs - r.length))).set 2 (UInt8.ofNat (r.length / 256))).set 3 (UInt8.ofNat r.length) = be 2 (512 - tot rs - r.length) ++ (be 2 r.length ++ (zs (500 - 4 * rs.length - tot rs - r.length) ++ (r ++ bk rs))) := by
    rw [be2_eq, be2_eq]; rfl
  rw [hz]
  have hh : ∀ x : List UInt8, ((hd8 rs.length next ++ x).set 2 (UInt8.ofNat ((rs.length + 1) / 256))).set 3 (UInt8.ofNat (rs.length + 1)) = hd8 (rs.length + 1) next ++ x := by
    intro x
    unfold hd8
    rw [be2_eq, be2_eq]; rfl
  rw [hh]
  unfold layL
  rw [List.length_append, List.length_singleton, tot_snoc, bk_snoc, slB_snoc, show 504 - 4 * (rs.length + 1) - (tot rs + r.length) = 500 - 4 * rs.length - tot rs - r.length from by omega]
  simp only [List.append_assoc]
  rfl
end
end Go.Proofs.Ytjlpfhioacphkaa
/-
  Slots of a heap page: the reference's Used, Room.
-/
namespace Go.Proofs.Ytjlpfhioacphkaa
section
set_option linter.unusedSimpArgs false
set_option linter.unusedVariables false
open Go.RowKit

def tl (rs : List (List UInt8)) : Nat := (rs.map List.length).sum
theorem tl_tot (rs : List (List UInt8)) : tl rs = tot rs := by
  induction rs with
  | nil => rfl
  | cons r rs ih => rw [tot_cons]; unfold tl at *; simp only [List.map_cons, List.sum_cons]; omega
theorem tot_take_at {rs : List (List UInt8)} {i : Nat} {r : List UInt8} (h : rs[i]? = some r) : tot (rs.take (i + 1)) = tot (rs.take i) + r.length := by
  rw [List.take_add_one, h]; exact tot_snoc _ _
theorem tot_takes (rs : List (List UInt8)) (i : Nat) : tot (rs.take i) ≤ tot rs := by
  have h := tot_app (rs.take i) (rs.drop i)
  rw [List.take_append_drop] at h
  omega
section
variable {w : World} {A : Option Addr} {n c : Nat} {rs : List (List UInt8)}
end
end
end Go.Proofs.Ytjlpfhioacphkaa
/-
  Slots of a heap page: the reference's Lay.
-/
namespace Go.Proofs.Ytjlpfhioacphkaa
section
set_option linter.unusedSimpArgs false
set_option linter.unusedVariables false
open Go.RowKit

theorem strs_append (a b : List UInt8) : str a ++ str b = str (a ++ b) := str_append a b
theorem bk_take {rs : List (List UInt8)} {i : Nat} {r : List UInt8} (h : rs[i]? = some r) : bk (rs.take (i + 1)) = r ++ bk (rs.take i) := by
  rw [List.take_add_one, h]; exact bk_snoc _ _
theorem slB_take {rs : List (List UInt8)} {i e : Nat} {r : List UInt8} (h : rs[i]? = some r) : slB e (rs.take (i + 1)) = slB e (rs.take i) ++ (be 2 (e - (bk (rs.take (i + 1))).length) ++ be 2 r.length) := by
  rw [bk_take h, List.take_add_one, h]
  show slB e (rs.take i ++ [r]) = _
  rw [slB_snoc, List.length_append]
  congr 3
  omega
theorem mk_zs (n : Nat) (hn : n ≤ 3000000) (k : IntKind) (W : World) : (Instr.makeSlice 27 (.int k (n : Int)) (.int k (n : Int))).run Try.prog W = .ok (.slice (some ⟨W.heap.size, 0, none⟩) n n) (W.alloc (.cells (bV (zs n)) 5)) := by
  obtain ⟨i0, hi0, hz0, hs0, hy0⟩ := int_info8 Try.infoB
  have hm : madeCells #[.int .u8 0] n = bV (zs n) := by
    unfold zs
    apply Array.ext
    · simp [size_madeCells, bV_size]
    · intro j h1 h2
      have hj : j < n := by simpa [size_madeCells] using h1
      have : (bV (List.replicate n 0))[j]? = some (.int .u8 ((0 : UInt8).toNat : Int)) := bV_at (by simp [hj])
      rw [Array.getElem?_eq_getElem h2] at this
      rw [Option.some.inj this]
      simp [madeCells, Nat.mod_one]
  have h := run_make (P := Try.prog) W 27 5 i0 (.int .u8 0) Try.underlying27 hi0 hz0 k k n n (by omega) (by omega) (by rw [hy0]; omega) (by omega)
  rw [hs0, Int.toNat_natCast, Nat.mul_one] at h
  rw [← hm]
  exact h
theorem cv_zs (n : Nat) (w : World) : (convert 27 9 (.slice (some ⟨w.heap.size, 0, none⟩) n n)).run Try.prog (w.alloc (.cells (bV (zs n)) 5)) = .ok (.string (str (zs n))) (w.alloc (.cells (bV (zs n)) 5)) :=
  conv_blk (l := zs n) (Blk.new w 5 _) _ 5 _ Try.underlying27 Try.underlying5 Try.underlying9 n n List.length_replicate
section
variable {w : World} {A : Option Addr} {n c : Nat} {rs : List (List UInt8)}
end
end
end Go.Proofs.Ytjlpfhioacphkaa
