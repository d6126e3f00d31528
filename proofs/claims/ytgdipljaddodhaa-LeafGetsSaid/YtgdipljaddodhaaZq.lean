/-
  Pages of a tree: contract of the reference's Page: heads that may not be; leaf pages.
-/
import Derived.Test.YtgdipljaddodhaaZp
import Derived.Test.YtgdipljaddodhaaZa
set_option linter.unusedSimpArgs false
set_option linter.unusedVariables false
namespace Go.Proofs.Ytgdipljaddodhaa
open Go.RowKit

theorem rdMany_at : ∀ (n : Nat) (r : List UInt8) (j : Nat), j < n → (rdMany n r)[j]? = some (rdE (rdRest j r))
  | 0, _, _, h => absurd h (by omega)
  | n + 1, r, 0, _ => rfl
  | n + 1, r, j + 1, h => by rw [rdMany, List.getElem?_cons_succ, rdMany_at n _ j (by omega)]; rfl
theorem rdSh_at : ∀ (n : Nat) (r : List UInt8) (j : Nat), j < n → rdS (rdRest j r) = true → rdSh n r = true
  | 0, _, _, h, _ => absurd h (by omega)
  | n + 1, r, 0, _, h => by rw [rdSh]; show (rdS r || _) = true; rw [show rdS r = true from h]; rfl
  | n + 1, r, j + 1, h, hs => by rw [rdSh, rdSh_at n _ j (by omega) hs]; simp
theorem riMany_at : ∀ (n : Nat) (r : List UInt8) (j : Nat), j < n → (riMany n r)[j]? = some (rdE (riRest j r), riC (riRest j r))
  | 0, _, _, h => absurd h (by omega)
  | n + 1, r, 0, _ => rfl
  | n + 1, r, j + 1, h => by rw [riMany, List.getElem?_cons_succ, riMany_at n _ j (by omega)]; rfl
theorem riSh_at : ∀ (n : Nat) (r : List UInt8) (j : Nat), j < n → riS (riRest j r) = true → riSh n r = true
  | 0, _, _, h, _ => absurd h (by omega)
  | n + 1, r, 0, _, h => by rw [riSh]; show (riS r || _) = true; rw [show riS r = true from h]; rfl
  | n + 1, r, j + 1, h, hs => by rw [riSh, riSh_at n _ j (by omega) hs]; simp
def small (l : List En) : Bool := l.all fun e => decide (e.s.size ≤ 200)
theorem small_mayEn (l : List En) : mayEn l = (small l && riseE l) := rfl
theorem small_false {l : List En} {j : Nat} {e : En} (h : l[j]? = some e) (hs : 200 < e.s.size) : mayEn l = false := by
  rw [small_mayEn]
  have : small l = false := by
    unfold small
    rw [Bool.eq_false_iff]
    intro hh
    rw [List.all_eq_true] at hh
    have := hh _ (List.mem_of_getElem? h)
    simp only [decide_eq_true_iff] at this
    omega
  rw [this]; rfl
/-- Is a leaf page right, behind its head? -/
def okLeaf (L : List UInt8) : Bool := !rdSh (hdC L) (L.drop 8) && allZ (rdRest (hdC L) (L.drop 8)) && mayEn (rdMany (hdC L) (L.drop 8))
def RetPg (w : World) (kind : Int) (N : Nat) (ch : List Nat) (l : List En) : Bool → Ending → World → Prop
  | true, e, w' => ∃ A c A2 c2, e = .returned (.tuple #[.int .i64 kind, .int .u32 (N : Int), .slice A ch.length c, .slice A2 l.length c2]) ∧ Reads w' w'.heap.size 1 A ch.length (vN ch) ∧ Reads w' w'.heap.size 3 A2 l.length (vE l) ∧ Below w.heap.size w w'
  | false, e, w' => ∃ v3 v4, e = .returned (.tuple #[.int .i64 (-1), .int .u32 0, v3, v4]) ∧ Below w.heap.size w w'
def RetPgNo (w : World) (e : Ending) (w' : World) : Prop := ∃ v3 v4, e = .returned (.tuple #[.int .i64 (-1), .int .u32 0, v3, v4]) ∧ Below w.heap.size w w'
def hdBad (L : List UInt8) : Prop := hdOk L = false ∨ (hdK L ≠ 2 ∧ hdK L ≠ 3) ∨ (hdK L = 3 ∧ (hdN L ≠ 0 ∨ hdC L = 0))

set_option maxRecDepth 100000 in
set_option maxHeartbeats 4000000 in
theorem page_bad (L : List UInt8) (hL : L.length ≤ 1000) (h : hdBad L) (w : World) :
    Calls Try.prog 25 #[.string (str L)] w (RetPgNo w) := by
  have G := fun W => rhget_any L (by omega) W
  unfold RetHd at G
  by_cases ho : hdOk L = true
  rotate_left
  · have ho' : hdOk L = false := by simpa using ho
    have hv : hdV L = .agg #[.int .u8 0, .int .u16 0, .int .u32 0] := by unfold hdV; rw [ho']; rfl
    rw [hv, ho'] at G
    have HG := Lib.hid G
    clear G ho ho' hv h
    go_enter Try.func25, Try.ntmps25
    go_wp2_with fail
    refine (HG.out _).mono ?_
    rintro e w1 ⟨rfl, hb1⟩
    go_wp2
    refine bodyPost_ret (v := .tuple #[.int .i64 (-1), .int .u32 0, _, _]) (by simp [results, Try.results25, go_sem]; exact ⟨rfl, rfl⟩) rfl ⟨_, _, rfl, by (with_reducible repeat (first | exact Below.refl _ _ | exact hb1 | refine bto0 ?_ hb1 | refine bdr ?_ _ | refine Below.drew ?_ | refine ball ?_ _))⟩
  · have hv : hdV L = .agg #[.int .u8 (hdK L : Int), .int .u16 (hdC L : Int), .int .u32 (hdN L : Int)] := by unfold hdV; rw [ho]; rfl
    rw [hv, ho] at G
    have h' : (hdK L ≠ 2 ∧ hdK L ≠ 3) ∨ (hdK L = 3 ∧ (hdN L ≠ 0 ∨ hdC L = 0)) := by
      rcases h with h | h
      · rw [ho] at h; cases h
      · exact h
    generalize hdK L = K at *
    generalize hdC L = C at *
    generalize hdN L = N at *
    have HG := Lib.hid G
    clear G ho hv h
    rcases h' with ⟨h2, h3⟩ | ⟨rfl, h4⟩
    · have e1 : ((K : Int) != 2) = true := by simp; omega
      have e2 : ((K : Int) == 2) = false := by simp; omega
      have e3 : ((K : Int) != 3) = true := by simp; omega
      have e4 : ((K : Int) == 3) = false := by simp; omega
      have e5 : (K != 2) = true := by simp; omega
      have e6 : (K == 2) = false := by simp; omega
      have e7 : (K != 3) = true := by simp; omega
      have e8 : (K == 3) = false := by simp; omega
      clear h2 h3
      go_enter Try.func25, Try.ntmps25
      go_wp2_with fail
      refine (HG.out _).mono ?_
      rintro e w1 ⟨rfl, hb1⟩
      go_wp2
      refine bodyPost_ret (v := .tuple #[.int .i64 (-1), .int .u32 0, _, _]) (by simp [results, Try.results25, go_sem]; exact ⟨rfl, rfl⟩) rfl ⟨_, _, rfl, by (with_reducible repeat (first | exact Below.refl _ _ | exact hb1 | refine bto0 ?_ hb1 | refine bdr ?_ _ | refine Below.drew ?_ | refine ball ?_ _))⟩
    · by_cases hN : N = 0
      · have hC : C = 0 := by rcases h4 with h | h; exact absurd hN h; exact h
        have e1 : ((N : Int) != 0) = false := by simp; omega
        have e2 : ((N : Int) == 0) = true := by simp; omega
        have e3 : (N != 0) = false := by simp; omega
        have e4 : (N == 0) = true := by simp; omega
        have e5 : ((C : Int) == 0) = true := by simp; omega
        have e6 : (C == 0) = true := by simp; omega
        clear hN hC h4
        go_enter Try.func25, Try.ntmps25
        go_wp2_with fail
        refine (HG.out _).mono ?_
        rintro e w1 ⟨rfl, hb1⟩
        go_wp2
        refine bodyPost_ret (v := .tuple #[.int .i64 (-1), .int .u32 0, _, _]) (by simp [results, Try.results25, go_sem]; exact ⟨rfl, rfl⟩) rfl ⟨_, _, rfl, by (with_reducible repeat (first | exact Below.refl _ _ | exact hb1 | refine bto0 ?_ hb1 | refine bdr ?_ _ | refine Below.drew ?_ | refine ball ?_ _))⟩
      · have e1 : ((N : Int) != 0) = true := by simp; omega
        have e2 : ((N : Int) == 0) = false := by simp; omega
        have e3 : (N != 0) = true := by simp; omega
        have e4 : (N == 0) = false := by simp; omega
        clear hN h4
        go_enter Try.func25, Try.ntmps25
        go_wp2_with fail
        refine (HG.out _).mono ?_
        rintro e w1 ⟨rfl, hb1⟩
        go_wp2
        refine bodyPost_ret (v := .tuple #[.int .i64 (-1), .int .u32 0, _, _]) (by simp [results, Try.results25, go_sem]; exact ⟨rfl, rfl⟩) rfl ⟨_, _, rfl, by (with_reducible repeat (first | exact Below.refl _ _ | exact hb1 | refine bto0 ?_ hb1 | refine bdr ?_ _ | refine Below.drew ?_ | refine ball ?_ _))⟩
end Go.Proofs.Ytgdipljaddodhaa
