/-
  The column of a path's order.
-/
import Derived.Test.YtoamnnonkhgpoaaGreatDoorP4
set_option linter.unusedSimpArgs false
set_option linter.unusedVariables false
namespace Go.Proofs.YtoamnnonkhgpoaaGreatDoor
open Go.RowKit

/-- A path's order: -1, or the column. -/
def ordV (r : List Ix) (k ix : Int) : Int :=
  if k ≠ 1 ∧ k ≠ 2 then -1 else if ix < 0 then -1 else match r[ix.toNat]? with
    | none => -1
    | some x => match x.cs with
      | [] => -1
      | c :: _ => c
/-- The cases. -/
inductive OrC (w : World) (B : Option Addr) (m : Nat) (r : List Ix) (k ix : Int) : Prop
  | no (h1 : k ≠ 1) (h2 : k ≠ 2) (e : ordV r k ix = -1)
  | lo (hk : k = 1 ∨ k = 2) (h : ix < 0) (e : ordV r k ix = -1)
  | hi (hk : k = 1 ∨ k = 2) (h0 : 0 ≤ ix) (h : (m : Int) ≤ ix) (e : ordV r k ix = -1)
  | nil (hk : k = 1 ∨ k = 2) (i : Nat) (hi : ix = (i : Int)) (h : i < m) (ad : Addr) (hB : B = some ad) (x : Ix) (hx : r[i]? = some x) (hn : x.n = 0) (e : ordV r k ix = -1)
  | at_ (hk : k = 1 ∨ k = 2) (i : Nat) (hi : ix = (i : Int)) (h : i < m) (ad : Addr) (hB : B = some ad) (x : Ix) (hx : r[i]? = some x) (hn : 0 < x.n) (c : Int) (ad2 : Addr) (hA : x.A = some ad2) (hc : x.cs[0]? = some c) (e : ordV r k ix = c)
theorem orC_of {w : World} {B : Option Addr} {m : Nat} {r : List Ix} (hx : Reads w w.heap.size 7 B m (vIx r)) (hin : ∀ x ∈ r, IxIn w w.heap.size x) (k ix : Int) : OrC w B m r k ix := by
  have hl : r.length = m := by have := hx.1; rw [vIx_len] at this; omega
  by_cases hk : k ≠ 1 ∧ k ≠ 2
  · exact .no hk.1 hk.2 (by unfold ordV; rw [if_pos hk])
  · have hk2 : k = 1 ∨ k = 2 := by omega
    by_cases h0 : ix < 0
    · exact .lo hk2 h0 (by unfold ordV; rw [if_neg hk, if_pos h0])
    · obtain ⟨i, rfl⟩ : ∃ i : Nat, ix = (i : Int) := ⟨ix.toNat, by omega⟩
      by_cases hm : m ≤ i
      · refine .hi hk2 (by omega) (by omega) ?_
        unfold ordV
        rw [if_neg hk, if_neg h0, Int.toNat_natCast, List.getElem?_eq_none (by omega)]
      · obtain ⟨ad, hB, _⟩ := hx.2 (by omega)
        have hxi : r[i]? = some (r[i]'(by omega)) := List.getElem?_eq_getElem (by omega)
        generalize r[i]'(by omega) = x at hxi
        have hxin := hin x (List.mem_of_getElem? hxi)
        have hcl : x.cs.length = x.n := by have := hxin.2.1.1; rw [vI64_len] at this; omega
        have e : ordV r k (i : Int) = match x.cs with | [] => -1 | c :: _ => c := by
          unfold ordV
          rw [if_neg hk, if_neg h0, Int.toNat_natCast, hxi]
        cases hcs : x.cs with
        | nil =>
          rw [hcs] at e hcl
          exact .nil hk2 i rfl (by omega) ad hB x hxi (by simpa using hcl.symm) e
        | cons c t =>
          rw [hcs] at hcl
          simp at hcl
          obtain ⟨ad2, hA, _⟩ := hxin.2.1.2 (by omega)
          rw [hcs] at e
          exact .at_ hk2 i rfl (by omega) ad hB x hxi (by omega) c ad2 hA (by rw [hcs]; rfl) e
set_option maxRecDepth 100000 in
set_option maxHeartbeats 8000000 in
theorem order22_any (A : Option Addr) (n c : Nat) (B : Option Addr) (m d : Nat) (r : List Ix) (p : Pt) (w : World) (hx : Reads w w.heap.size 7 B m (vIx r)) (hin : ∀ x ∈ r, IxIn w w.heap.size x) (hm : m ≤ maxLen) (hp : PtIn w w.heap.size p) :
    Calls Tryz.prog 6 #[.agg #[.slice A n c, .slice B m d], p.agg] w (RetB w (.int .i64 (ordV r p.k p.ix))) := by
  have hC := orC_of hx hin p.k p.ix
  have hix := hp.ix
  clear hp
  unfold maxLen at hm
  have mI : (m : Int) ≤ 9223372036854775807 := by omega
  obtain ⟨k0, ix0, RA0, rn0, rc0, CA0, cn0, cc0, ot0, AA0, an0, ac0, MA0, mn0, mc0, rg0, cs0, al0, mo0⟩ := p
  simp only [Pt.agg] at *
  have hb0 : Below w.heap.size w ((w.alloc (.cells #[.slice A n c, .slice B m d] 25)).alloc (.cells #[.int .u8 k0, .int .i64 ix0, .slice RA0 rn0 rc0, .slice CA0 cn0 cc0, .int .i64 ot0, .slice AA0 an0 ac0, .slice MA0 mn0 mc0] 29)) := ball (ball (Below.refl _ _) _) _
  rcases hC with ⟨h1, h2, e⟩ | ⟨hk, h, e⟩ | ⟨hk, h0, h, e⟩ | ⟨hk, i, hi, h, ad, rfl, x, hxi, hn, e⟩ | ⟨hk, i, hi, h, ad, rfl, x, hxi, hn, cv, ad2, hA, hc, e⟩
  all_goals
    rw [e]
    clear e
  · have e1 : (k0 != 1) = true := by simpa using h1
    have e2 : (k0 != 2) = true := by simpa using h2
    clear hx hin h1 h2
    go_enter Tryz.func6, Tryz.ntmps6
    go_wp2
    go_ret
    exact ⟨rfl, hb0⟩
  · clear hx hin
    rcases hk with rfl | rfl
    all_goals
      go_enter Tryz.func6, Tryz.ntmps6
      go_wp2
      go_ret
      exact ⟨rfl, hb0⟩
  · clear hx hin
    have h0' : ¬ ix0 < 0 := by omega
    rcases hk with rfl | rfl
    all_goals
      go_enter Tryz.func6, Tryz.ntmps6
      go_wp2
      go_ret
      exact ⟨rfl, hb0⟩
  · subst hi
    obtain ⟨ad', x', hA', hab, hx', d0, d1, d2, d3, d4, d5, d6⟩ := (hx.below hb0).ix_ h
    injection hA' with hA'
    subst hA'
    rw [hxi] at hx'
    injection hx' with hx'
    subst hx'
    rw [hn] at d2
    have q0 : (0 : Int) ≤ (i : Int) := by omega
    have q1 : (i : Int) < (m : Int) := by omega
    clear hx hin hxi d0 d1 d3 d4 d5 d6 hn
    rcases hk with rfl | rfl
    all_goals
      go_enter Tryz.func6, Tryz.ntmps6
      go_wp2
      go_ret
      exact ⟨rfl, hb0⟩
  · subst hi
    obtain ⟨ad', x', hA', hab, hx', d0, d1, d2, d3, d4, d5, d6⟩ := (hx.below hb0).ix_ h
    injection hA' with hA'
    subst hA'
    have hxin := hin x (List.mem_of_getElem? hxi)
    rw [hxi] at hx'
    injection hx' with hx'
    subst hx'
    obtain ⟨ad3, y, hA3, hab3, hy, f0⟩ := (hxin.2.1.below hb0).i64_ hn
    rw [hA] at hA3
    injection hA3 with hA3
    subst hA3
    rw [hc] at hy
    injection hy with hy
    subst hy
    have f0' : _ = some (Value.int .i64 cv) := f0
    rw [show ad2.add 0 = ad2 from by simp [Addr.add]] at f0'
    have hxn := hxin.1.2.1
    unfold maxLen at hxn
    rw [hA] at d2
    have q0 : (0 : Int) ≤ (i : Int) := by omega
    have q1 : (i : Int) < (m : Int) := by omega
    obtain ⟨xn, hxn2⟩ : ∃ xn, x.n = xn := ⟨_, rfl⟩
    obtain ⟨xc, hxc2⟩ : ∃ xc, x.c = xc := ⟨_, rfl⟩
    rw [hxn2] at d2 hn hxn
    rw [hxc2] at d2 hxn
    have q2 : (0 : Int) < (xn : Int) := by omega
    have q3 : ((xn : Int) == 0) = false := by simp; omega
    have q4 : (xn : Int) ≤ 9223372036854775807 := by omega
    clear hx hin hxi d0 d1 d3 d4 d5 d6 f0 hxin hxn2 hxc2 hA hc
    rcases hk with rfl | rfl
    all_goals
      go_enter Tryz.func6, Tryz.ntmps6
      go_wp2
      go_ret
      exact ⟨rfl, hb0⟩
end Go.Proofs.YtoamnnonkhgpoaaGreatDoor
