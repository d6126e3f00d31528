
/-
  The program's table and path.
-/
import Derived.Test.YtblpflobpffjnaaDoorWg
import Derived.Deep.RegionHeld3
import Derived.Deep.QuietTactic
import Derived.BigQuiet
set_option linter.unusedSimpArgs false
set_option linter.unusedVariables false
namespace Go.Proofs.YtblpflobpffjnaaDoor
open Go.RowKit

def pthL (ixs : List Ix) (x : Sp) : List (List UInt8) :=
  if x.pk = 0 then [[104, 101, 97, 112]] else if x.pk = 1 then [[105, 110, 100, 101, 120], idxL ixs x.pi, Lib.itoa (x.rn : Int)] else if x.pk = 2 then [[111, 110, 108, 121], idxL ixs x.pi, Lib.itoa (x.rn : Int)] else if x.pk = 3 then [[98, 111, 116, 104], idxL ixs x.pi, idxL ixs x.po, Lib.itoa (x.rn : Int), Lib.itoa (x.an : Int)] else [[63]]
def Sp.path (x : Sp) : Value := .agg #[.int .u8 x.pk, .int .i64 x.pi, .slice x.rA x.rn x.rc, .slice x.cA x.cn x.cc, .int .i64 x.po, .slice x.aA x.an x.ac, .slice x.mA x.mn x.mc]
/-- A row of strings that the call made. -/
def RetW (l : List (List UInt8)) (w : World) (e : Ending) (w' : World) : Prop := ∃ A c, e = .returned (.slice A l.length c) ∧ Reads w' w'.heap.size 1 A l.length (vStr l) ∧ l.length ≤ c ∧ Below w.heap.size w w' ∧ ∀ ad, A = some ad → ∃ g, ad = ⟨g, 0, none⟩
theorem retW {l : List (List UInt8)} {w w1 : World} {n g : Nat} {arr : Array Value} (hb : Below w.heap.size w w1) (hg : g = w1.heap.size) (hn : n = l.length) (harr : arr = (vStr l).toArray) : RetW l w (.returned (.slice (some ⟨g, 0, none⟩) n n)) (w1.alloc (.cells arr 9)) := by
  subst hn
  subst harr
  exact ⟨_, _, rfl, (reads_at w1 _ 9 hg (by simp) (by rw [vStr_len]; omega)).more (by simp; omega), Nat.le_refl _, ball hb _, fun ad h => by injection h with h; exact ⟨g, h.symm⟩⟩
theorem own_addr {w : World} {base n m c sz : Nat} {t : TypeId} {A : Option Addr} {xs : List Value} (h : w.ownsRow base t sz (.slice A m c) n xs) : ∀ ad, A = some ad → ∃ g, ad = ⟨g, 0, none⟩ := by
  intro ad hA
  rcases h.2 with ⟨hv, _⟩ | ⟨g, cap, cur, hv, _⟩
  · injection hv with h1; rw [hA] at h1; cases h1
  · injection hv with h1; rw [hA] at h1; injection h1 with h1; exact ⟨g, h1⟩

section
variable {w : World} {Bd : Nat} {A : Option Addr} {n : Nat} {tbs : List Tb} {B : Option Addr} {m : Nat} {ixs : List Ix} {K : Option Addr} {kn : Nat} {ks : List Int}
set_option maxRecDepth 100000 in
set_option maxHeartbeats 2000000 in
theorem table_any (E : EnvB w Bd A n tbs B m ixs K kn ks) (hBd : Bd ≤ w.heap.size) (c d kc : Nat) (v0 v2 v3 v4 v5 v6 v7 v8 v9 v10 : Value) (p : Int) (hp : I64 p) :
    Calls Tryd.prog 37 #[.agg #[.slice A n c, .slice B m d], .agg #[v0, .slice K kn kc, v2, v3, v4, v5, v6, v7, v8, v9, v10], .int .i64 p] w (RetB w (.string (str (tabL tbs ks p)))) := by
  have nI : (n : Int) ≤ 9223372036854775807 := by have := E.n0; unfold maxLen at this; omega
  have kI : (kn : Int) ≤ 9223372036854775807 := by have := E.k0; unfold maxLen at this; omega
  have hlen : tbs.length = n := by have := E.t.1; rw [vTb_len] at this; omega
  have hkl : ks.length = kn := by have := E.k.1; rw [vI64_len] at this; omega
  have hb0 := Lib.hid (ball (ball (Below.refl w.heap.size w) (.cells #[.slice A n c, .slice B m d] 25)) (.cells #[v0, .slice K kn kc, v2, v3, v4, v5, v6, v7, v8, v9, v10] 32))
  have HX := Lib.hid (E.below (hb0.out.mono hBd))
  have HKB := Lib.hid E.kb
  rcases Int.lt_or_le p 0 with h | h
  · have e : tabL tbs ks p = [63] := by unfold tabL; rw [if_pos h]
    rw [e]
    have q0 : decide (p < 0) = true := decide_eq_true h
    clear e hp
    go_enter Tryd.func37, Tryd.ntmps37
    go_wp2
    go_quiet (fail)
    go_wp2
    go_ret
    exact ⟨rfl, by first | exact hb0.out | exact bdr hb0.out _⟩
  · obtain ⟨k, rfl⟩ : ∃ k : Nat, p = k := ⟨p.toNat, by omega⟩
    have e : tabL tbs ks (k : Int) = match ks[k]? with
      | none => [63]
      | some z => if z < 0 then [63] else match tbs[z.toNat]? with
        | some t => t.nm.data.toList
        | none => [63] := by unfold tabL; rw [if_neg (by omega)]; rfl
    rw [e]
    have q0 : decide ((k : Int) < 0) = false := decide_eq_false (by omega)
    clear e hp
    by_cases hk : k < kn
    · obtain ⟨ad, u, rfl, hab, hu, c0⟩ := HX.out.k.at_ hk
      obtain ⟨z, hz, rfl⟩ := vI64_at hu
      have hzb := HKB.out z (List.mem_of_getElem? hz)
      obtain ⟨z0, z1⟩ := hzb
      rw [hz]
      have kk : (k : Int) < (kn : Int) := by omega
      have q1 : decide ((kn : Int) ≤ (k : Int)) = false := decide_eq_false (by omega)
      have q1' : decide (kn ≤ k) = false := decide_eq_false (by omega)
      rcases Int.lt_or_le z 0 with hz0 | hz0
      · simp only [if_pos hz0]
        have q2 : decide (z < 0) = true := decide_eq_true hz0
        clear hz hu hlen hkl
        go_enter Tryd.func37, Tryd.ntmps37
        go_wp2
        go_quiet (fail)
        go_wp2
        go_ret
        exact ⟨rfl, by first | exact hb0.out | exact bdr hb0.out _⟩
      · obtain ⟨j, rfl⟩ : ∃ j : Nat, z = j := ⟨z.toNat, by omega⟩
        simp only [if_neg (show ¬ (j : Int) < 0 by omega), Int.toNat_natCast]
        have q2 : decide ((j : Int) < 0) = false := decide_eq_false (by omega)
        by_cases hj : j < n
        · obtain ⟨ad2, t, rfl, hab2, ht, d0, -⟩ := HX.out.t.tb_ hj
          rw [ht]
          have jj : (j : Int) < (n : Int) := by omega
          have q3 : decide ((n : Int) ≤ (j : Int)) = false := decide_eq_false (by omega)
          have q3' : decide (n ≤ j) = false := decide_eq_false (by omega)
          have e2 : str t.nm.data.toList = t.nm := str_of _
          simp only [e2]
          clear hz hu ht e2 hlen hkl
          go_enter Tryd.func37, Tryd.ntmps37
          go_wp2
          go_quiet (fail)
          go_wp2
          go_quiet (fail)
          go_wp2
          go_ret
          exact ⟨rfl, by first | exact hb0.out | exact bdr hb0.out _ | exact bdr (bdr hb0.out _) _⟩
        · have ht : tbs[j]? = none := List.getElem?_eq_none (by omega)
          rw [ht]
          have jj : (n : Int) ≤ (j : Int) := by omega
          have q3 : decide ((n : Int) ≤ (j : Int)) = true := decide_eq_true (by omega)
          have q3' : decide (n ≤ j) = true := decide_eq_true (by omega)
          clear hz hu ht hlen hkl
          go_enter Tryd.func37, Tryd.ntmps37
          go_wp2
          go_quiet (fail)
          go_wp2
          go_ret
          exact ⟨rfl, by first | exact hb0.out | exact bdr hb0.out _⟩
    · have hx : ks[k]? = none := List.getElem?_eq_none (by omega)
      rw [hx]
      have kk : (kn : Int) ≤ (k : Int) := by omega
      have q1 : decide ((kn : Int) ≤ (k : Int)) = true := decide_eq_true (by omega)
      have q1' : decide (kn ≤ k) = true := decide_eq_true (by omega)
      clear hx hlen hkl
      go_enter Tryd.func37, Tryd.ntmps37
      go_wp2
      go_quiet (fail)
      go_wp2
      go_ret
      exact ⟨rfl, by first | exact hb0.out | exact bdr hb0.out _⟩
end
end Go.Proofs.YtblpflobpffjnaaDoor
