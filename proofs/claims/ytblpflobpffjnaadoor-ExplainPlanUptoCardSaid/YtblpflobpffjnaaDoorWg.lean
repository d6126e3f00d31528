
/-
  A plan's words: what they are (plain), and the small functions of both sides: method, index, table, Itoa, number.
-/
import Derived.Test.YtblpflobpffjnaaDoorFa
import Derived.Test.YtblpflobpffjnaaDoorWf
import Derived.Lib.Join
set_option linter.unusedSimpArgs false
set_option linter.unusedVariables false
namespace Go.Proofs.YtblpflobpffjnaaDoor
open Go.RowKit

/-- A step as it lies in memory. -/
structure Sp where
  tb : Int
  m : Int
  pk : Int
  pi : Int
  rA : Option Addr
  rn : Nat
  rc : Nat
  cA : Option Addr
  cn : Nat
  cc : Nat
  po : Int
  aA : Option Addr
  an : Nat
  ac : Nat
  mA : Option Addr
  mn : Nat
  mc : Nat
  ix : Int
  jn : Int
def Sp.cells (x : Sp) : List Value := [.int .i64 x.tb, .int .u8 x.m, .int .u8 x.pk, .int .i64 x.pi, .slice x.rA x.rn x.rc, .slice x.cA x.cn x.cc, .int .i64 x.po, .slice x.aA x.an x.ac, .slice x.mA x.mn x.mc, .int .i64 x.ix, .int .i64 x.jn]
def I64 (z : Int) : Prop := -9223372036854775808 ≤ z ∧ z ≤ 9223372036854775807
structure Sp.ok (x : Sp) : Prop where
  tb : I64 x.tb
  pi : I64 x.pi
  po : I64 x.po
  ix : I64 x.ix
  jn : I64 x.jn
  m : 0 ≤ x.m ∧ x.m ≤ 255
  pk : 0 ≤ x.pk ∧ x.pk ≤ 255
  rn : x.rn ≤ maxLen
  an : x.an ≤ maxLen
def vSp (l : List Sp) : List Value := l.flatMap Sp.cells
theorem Sp.len (e : Sp) : e.cells.length = 11 := rfl
theorem vSp_len (l : List Sp) : (vSp l).length = l.length * 11 := flat_len _ 11 l fun v _ => v.len
theorem vSp_at {l : List Sp} {k : Nat} {v : Sp} (h : l[k]? = some v) (j : Nat) (hj : j < 11) : (vSp l)[k * 11 + j]? = v.cells[j]? := flat_at Sp.cells 11 l k v j (fun v _ => v.len) h hj
theorem Reads.sp_ {w : World} {B : Nat} {A : Option Addr} {n k : Nat} {l : List Sp} (hr : Reads w B 11 A n (vSp l)) (hk : k < n) :
    ∃ ad v, A = some ad ∧ ad.block < B ∧ l[k]? = some v ∧ w.cell? (ad.add (k * 11)) = some (.int .i64 v.tb) ∧ ∀ j u, v.cells[j + 1]? = some u → w.cell? ⟨(ad.add (k * 11)).block, (ad.add (k * 11)).off + (j + 1), none⟩ = some u := by
  have hl : l.length = n := by have := hr.1; rw [vSp_len] at this; omega
  obtain ⟨ad, hA, hb, hc⟩ := hr.2 (by omega)
  have hv : l[k]? = some (l[k]'(by omega)) := List.getElem?_eq_getElem (by omega)
  refine ⟨ad, l[k]'(by omega), hA, hb, hv, ?_, fun j u hu => ?_⟩
  · have := hc (k * 11 + 0) _ (by rw [vSp_at hv 0 (by omega)]; rfl)
    simpa using this
  · have hj : j + 1 < 11 := by have := (List.getElem?_eq_some_iff.1 hu).1; rw [Sp.len] at this; exact this
    rw [field_add _ _ _ (by omega)]
    exact hc (k * 11 + (j + 1)) _ (by rw [vSp_at hv (j + 1) hj, hu])

/-- The book's tables and indexes, and the block's tables, as they lie in memory. -/
structure EnvB (w : World) (Bd : Nat) (A : Option Addr) (n : Nat) (tbs : List Tb) (B : Option Addr) (m : Nat) (ixs : List Ix) (K : Option Addr) (kn : Nat) (ks : List Int) : Prop where
  t : Reads w Bd 5 A n (vTb tbs)
  x : Reads w Bd 7 B m (vIx ixs)
  k : Reads w Bd 1 K kn (vI64 ks)
  n0 : n ≤ maxLen
  m0 : m ≤ maxLen
  k0 : kn ≤ maxLen
  kb : ∀ z ∈ ks, I64 z
  tn : ∀ t ∈ tbs, t.nm.size ≤ 1048576
  xn : ∀ x ∈ ixs, x.nm.size ≤ 1048576
theorem EnvB.below {w w' : World} {Bd : Nat} {A : Option Addr} {n : Nat} {tbs : List Tb} {B : Option Addr} {m : Nat} {ixs : List Ix} {K : Option Addr} {kn : Nat} {ks : List Int} (h : EnvB w Bd A n tbs B m ixs K kn ks) (hb : Below Bd w w') : EnvB w' Bd A n tbs B m ixs K kn ks :=
  ⟨h.t.below hb, h.x.below hb, h.k.below hb, h.n0, h.m0, h.k0, h.kb, h.tn, h.xn⟩

def mthL (m : Int) : List UInt8 := if m = 0 then [102, 105, 114, 115, 116] else if m = 1 then [108, 111, 111, 112] else if m = 2 then [112, 114, 111, 98, 101] else if m = 3 then [109, 101, 114, 103, 101] else [63]
def idxL (ixs : List Ix) (i : Int) : List UInt8 := if i < 0 then [63] else match ixs[i.toNat]? with
  | some x => x.nm.data.toList
  | none => [63]
def tabL (tbs : List Tb) (ks : List Int) (p : Int) : List UInt8 := if p < 0 then [63] else match ks[p.toNat]? with
  | none => [63]
  | some z => if z < 0 then [63] else match tbs[z.toNat]? with
    | some t => t.nm.data.toList
    | none => [63]
theorem idxL_len {ixs : List Ix} (h : ∀ x ∈ ixs, x.nm.size ≤ 1048576) (i : Int) : (idxL ixs i).length ≤ 1048576 := by
  unfold idxL
  split
  · decide
  · split
    · rename_i x hx
      rw [len_size]; exact h x (List.mem_of_getElem? hx)
    · decide
theorem tabL_len {tbs : List Tb} (h : ∀ x ∈ tbs, x.nm.size ≤ 1048576) (ks : List Int) (i : Int) : (tabL tbs ks i).length ≤ 1048576 := by
  unfold tabL
  split
  · decide
  · split
    · decide
    · split
      · decide
      · split
        · rename_i x hx
          rw [len_size]; exact h x (List.mem_of_getElem? hx)
        · decide
theorem mthL_len (m : Int) : (mthL m).length ≤ 5 := by
  unfold mthL
  repeat (split; decide)
  decide
theorem nm_str (s : ByteArray) : s = str s.data.toList := (str_of s).symm

/-- What the table of powers of ten holds. -/
def VT (w : World) : Prop := Lib.TabIs Tryd.prog w "internal/strconv.uint64pow10" .u64 Lib.pow10Tab
theorem VT.below0 {w w' : World} (h : VT w) (hb : Below w.heap.size w w') : VT w' := Lib.tabBelow_of_tabIs h w' hb
theorem itoa_any (i : Int) (hi : I64 i) (w : World) (hv : VT w) : Calls Tryd.prog 38 #[.int .i64 i] w (RetB w (.string (str (Lib.itoa i)))) := by
  refine (Tryd.strconv_Itoa i hi.1 hi.2 w hv).mono fun e w' ⟨he, k, os, hw⟩ => ⟨he, ?_⟩
  subst hw
  exact ⟨rfl, rfl, rfl, by show w.heap.size ≤ (w.heap ++ os).size; simp, fun i hi => by show (w.heap ++ os)[i]? = _; rw [Array.getElem?_append_left hi]⟩
theorem rnumber_any (i : Int) (hi : I64 i) (w : World) : Calls Tryd.prog 41 #[.int .i64 i] w fun e w' => e = .returned (.string (str (Lib.itoa i))) ∧ w = w' := by
  have HD := Lib.hid fun W => decimal_any i hi.1 hi.2 W
  have e : (⟨(Lib.itoa i).toArray⟩ : ByteArray) = str (Lib.itoa i) := rfl
  rw [e] at HD
  generalize str (Lib.itoa i) = S at *
  clear e hi
  go_enter Tryd.func41, Tryd.ntmps41
  go_wp2_with (go_at_call 52; (with_reducible refine (HD.out _).mono ?_); rintro e w' ⟨rfl, rfl⟩)
  go_ret
  exact ⟨rfl, rfl⟩
theorem method_any (m : Int) (w : World) : Calls Tryd.prog 36 #[.int .u8 m] w fun e w' => e = .returned (.string (str (mthL m))) ∧ w = w' := by
  unfold mthL
  by_cases h0 : m = 0
  · subst h0
    go_enter Tryd.func36, Tryd.ntmps36
    go_wp2
    go_ret
    exact ⟨rfl, rfl⟩
  · by_cases h1 : m = 1
    · subst h1
      go_enter Tryd.func36, Tryd.ntmps36
      go_wp2
      go_ret
      exact ⟨rfl, rfl⟩
    · by_cases h2 : m = 2
      · subst h2
        go_enter Tryd.func36, Tryd.ntmps36
        go_wp2
        go_ret
        exact ⟨rfl, rfl⟩
      · by_cases h3 : m = 3
        · subst h3
          go_enter Tryd.func36, Tryd.ntmps36
          go_wp2
          go_ret
          exact ⟨rfl, rfl⟩
        · rw [if_neg h0, if_neg h1, if_neg h2, if_neg h3]
          have b0 : (m == 0) = false := beq_eq_false_iff_ne.2 h0
          have b1 : (m == 1) = false := beq_eq_false_iff_ne.2 h1
          have b2 : (m == 2) = false := beq_eq_false_iff_ne.2 h2
          have b3 : (m == 3) = false := beq_eq_false_iff_ne.2 h3
          go_enter Tryd.func36, Tryd.ntmps36
          go_wp2
          go_ret
          exact ⟨rfl, rfl⟩

section
variable {w : World} {Bd : Nat} {A : Option Addr} {n : Nat} {tbs : List Tb} {B : Option Addr} {m : Nat} {ixs : List Ix} {K : Option Addr} {kn : Nat} {ks : List Int}
theorem index_any (E : EnvB w Bd A n tbs B m ixs K kn ks) (hBd : Bd ≤ w.heap.size) (c d : Nat) (i : Int) (hi : I64 i) :
    Calls Tryd.prog 39 #[.agg #[.slice A n c, .slice B m d], .int .i64 i] w (RetB w (.string (str (idxL ixs i)))) := by
  have mI : (m : Int) ≤ 9223372036854775807 := by have := E.m0; unfold maxLen at this; omega
  have hlen : ixs.length = m := by have := E.x.1; rw [vIx_len] at this; omega
  have hb0 := Lib.hid (ball (Below.refl w.heap.size w) (.cells #[.slice A n c, .slice B m d] 25))
  have HX := Lib.hid (E.x.below (hb0.out.mono hBd))
  rcases Int.lt_or_le i 0 with h | h
  · have e : idxL ixs i = [63] := by unfold idxL; rw [if_pos h]
    rw [e]
    clear e hi
    go_enter Tryd.func39, Tryd.ntmps39
    go_wp2
    go_ret
    exact ⟨rfl, hb0.out⟩
  · obtain ⟨k, rfl⟩ : ∃ k : Nat, i = k := ⟨i.toNat, by omega⟩
    have e : idxL ixs (k : Int) = match ixs[k]? with
      | some x => x.nm.data.toList
      | none => [63] := by unfold idxL; rw [if_neg (by omega)]; rfl
    rw [e]
    clear e hi
    by_cases hk : k < m
    · obtain ⟨ad, x, rfl, hab, hx, c0, -⟩ := HX.out.ix_ hk
      rw [hx]
      have kI : (k : Int) < (m : Int) := by omega
      have e2 : str x.nm.data.toList = x.nm := str_of _
      rw [e2]
      clear hx e2 hlen
      go_enter Tryd.func39, Tryd.ntmps39
      go_wp2
      go_ret
      exact ⟨rfl, hb0.out⟩
    · have hx : ixs[k]? = none := List.getElem?_eq_none (by omega)
      rw [hx]
      have kI : (m : Int) ≤ (k : Int) := by omega
      clear hx hlen
      go_enter Tryd.func39, Tryd.ntmps39
      go_wp2
      go_ret
      exact ⟨rfl, hb0.out⟩
theorem rindex_any (E : EnvB w Bd A n tbs B m ixs K kn ks) (hBd : Bd ≤ w.heap.size) (c d : Nat) (i : Int) (hi : I64 i) :
    Calls Tryd.prog 42 #[.agg #[.slice A n c, .slice B m d], .int .i64 i] w (RetB w (.string (str (idxL ixs i)))) := by
  have mI : (m : Int) ≤ 9223372036854775807 := by have := E.m0; unfold maxLen at this; omega
  have hlen : ixs.length = m := by have := E.x.1; rw [vIx_len] at this; omega
  have hb0 := Lib.hid (ball (Below.refl w.heap.size w) (.cells #[.slice A n c, .slice B m d] 25))
  have HX := Lib.hid (E.x.below (hb0.out.mono hBd))
  rcases Int.lt_or_le i 0 with h | h
  · have e : idxL ixs i = [63] := by unfold idxL; rw [if_pos h]
    rw [e]
    clear e hi
    go_enter Tryd.func42, Tryd.ntmps42
    go_wp2
    go_ret
    exact ⟨rfl, hb0.out⟩
  · obtain ⟨k, rfl⟩ : ∃ k : Nat, i = k := ⟨i.toNat, by omega⟩
    have e : idxL ixs (k : Int) = match ixs[k]? with
      | some x => x.nm.data.toList
      | none => [63] := by unfold idxL; rw [if_neg (by omega)]; rfl
    rw [e]
    clear e hi
    by_cases hk : k < m
    · obtain ⟨ad, x, rfl, hab, hx, c0, -⟩ := HX.out.ix_ hk
      rw [hx]
      have kI : (k : Int) < (m : Int) := by omega
      have e2 : str x.nm.data.toList = x.nm := str_of _
      rw [e2]
      clear hx e2 hlen
      go_enter Tryd.func42, Tryd.ntmps42
      go_wp2
      go_ret
      exact ⟨rfl, hb0.out⟩
    · have hx : ixs[k]? = none := List.getElem?_eq_none (by omega)
      rw [hx]
      have kI : (m : Int) ≤ (k : Int) := by omega
      clear hx hlen
      go_enter Tryd.func42, Tryd.ntmps42
      go_wp2
      go_ret
      exact ⟨rfl, hb0.out⟩
end
end Go.Proofs.YtblpflobpffjnaaDoor
