/-
  Split: contract of join.
-/
import Derived.Test.YtbmfojeklhbocaaTj
set_option linter.unusedSimpArgs false
set_option linter.unusedVariables false
namespace Go.Proofs.Ytbmfojeklhbocaa
open Go.RowKit

def joinR : Option JT → Value
  | some x => .tuple #[.agg #[.int .i64 0, .int .i64 x.1, .int .i64 x.2.1, .int .i64 x.2.2.1, .int .i64 x.2.2.2], .bool true]
  | none => .tuple #[.agg #[.int .i64 0, .int .i64 0, .int .i64 0, .int .i64 0, .int .i64 0], .bool false]
/-- Is a term one that is no join, and why not? -/
def noJ (h : TmH) (n : Nat) (args : List Tm) : Prop := h.k ≠ 4 ∨ (h.k = 4 ∧ h.op ≠ ⟨#[61]⟩) ∨ (h.k = 4 ∧ h.op = ⟨#[61]⟩ ∧ n ≠ 2) ∨ (h.k = 4 ∧ h.op = ⟨#[61]⟩ ∧ n = 2 ∧ ∃ a b, args = [a, b] ∧ a.h.k ≠ 2) ∨ (h.k = 4 ∧ h.op = ⟨#[61]⟩ ∧ n = 2 ∧ ∃ a b, args = [a, b] ∧ a.h.k = 2 ∧ b.h.k ≠ 2)
set_option maxRecDepth 100000 in
set_option maxHeartbeats 8000000 in
theorem join_no (h : TmH) (A : Option Addr) (n c : Nat) (args : List Tm) (hno : noJ h n args) (w : World) (hin : TmIn w w.heap.size (.mk h A n c args)) :
    Calls Try.prog 33 #[(Tm.mk h A n c args).agg] w (RetB w (joinR none)) := by
  have hrd := hin.reads
  have hok := hin.hok
  have hnc := hin.nc
  simp only [Tm.A, Tm.n, Tm.c, Tm.h, Tm.args] at hrd hok hnc
  obtain ⟨k2, op2, no2, ⟨vk2, vi2, vs2⟩, of2, nm2, tb2, cl2⟩ := h
  have hX := Blk.new w 56 #[.int .u8 k2, .string op2, .bool no2, .int .u8 vk2, .int .i64 vi2, .string vs2, .string of2, .string nm2, .int .i64 tb2, .int .i64 cl2, .slice A n c]
  simp only [Tm.agg, TmH.agg, Tm.h, Tm.A, Tm.n, Tm.c]
  have hX1 := hX.alloc (.cells #[.int .i64 0, .int .i64 0, .int .i64 0, .int .i64 0, .int .i64 0] 64)
  have hbA : Below w.heap.size w ((w.alloc (.cells #[.int .u8 k2, .string op2, .bool no2, .int .u8 vk2, .int .i64 vi2, .string vs2, .string of2, .string nm2, .int .i64 tb2, .int .i64 cl2, .slice A n c] 56)).alloc (.cells #[.int .i64 0, .int .i64 0, .int .i64 0, .int .i64 0, .int .i64 0] 64)) := ball (ball (Below.refl _ _) _) _
  have hJA : Blk ((w.alloc (.cells #[.int .u8 k2, .string op2, .bool no2, .int .u8 vk2, .int .i64 vi2, .string vs2, .string of2, .string nm2, .int .i64 tb2, .int .i64 cl2, .slice A n c] 56)).alloc (.cells #[.int .i64 0, .int .i64 0, .int .i64 0, .int .i64 0, .int .i64 0] 64)) (w.heap.size + 1) 64 #[.int .i64 0, .int .i64 0, .int .i64 0, .int .i64 0, .int .i64 0] := by
    have h := Blk.new (w.alloc (.cells #[.int .u8 k2, .string op2, .bool no2, .int .u8 vk2, .int .i64 vi2, .string vs2, .string of2, .string nm2, .int .i64 tb2, .int .i64 cl2, .slice A n c] 56)) 64 #[.int .i64 0, .int .i64 0, .int .i64 0, .int .i64 0, .int .i64 0]
    simpa using h
  have HA := Lib.hid (And.intro hbA hJA)
  clear hJA hX hX1 hbA
  have fin : ∀ W : World, Blk W (w.heap.size + 1) 64 #[.int .i64 0, .int .i64 0, .int .i64 0, .int .i64 0, .int .i64 0] → Below w.heap.size w W → W.cell? ⟨w.heap.size + 1, 0, none⟩ = some (.int .i64 0) ∧ W.cell? ⟨w.heap.size + 1, 1, none⟩ = some (.int .i64 0) ∧ W.cell? ⟨w.heap.size + 1, 2, none⟩ = some (.int .i64 0) ∧ W.cell? ⟨w.heap.size + 1, 3, none⟩ = some (.int .i64 0) ∧ W.cell? ⟨w.heap.size + 1, 4, none⟩ = some (.int .i64 0) := fun W hb _ => ⟨hb.cell 0, hb.cell 1, hb.cell 2, hb.cell 3, hb.cell 4⟩
  have FIN := Lib.hid fin
  clear fin hin
  obtain ⟨n0, nmx⟩ := hnc
  unfold maxLen at nmx
  have nI : (n : Int) ≤ 9223372036854775807 := by omega
  unfold noJ at hno
  simp only at hno
  rcases hno with hk | ⟨rfl, ho⟩ | ⟨rfl, rfl, hn⟩ | ⟨rfl, rfl, rfl, a, b, rfl, ha⟩ | ⟨rfl, rfl, rfl, a, b, rfl, ha, hb⟩
  · have e1 : (k2 == 4) = false := by simpa using hk
    have e2 : (k2 != 4) = true := by simpa using hk
    clear hrd hok
    go_enter Try.func33, Try.ntmps33
    go_wp2
    obtain ⟨r0, r1, r2, r3, r4⟩ := FIN.out _ HA.out.2 HA.out.1
    exact bodyPost_ret (v := joinR none) (by simp [results, Try.results33, go_sem, joinR, r0, r1, r2, r3, r4]) rfl ⟨rfl, HA.out.1⟩
  · have e3 : ¬ op2.toList = [61] := by
      rw [ByteArray.toList_eq]
      intro e
      apply ho
      obtain ⟨⟨a⟩⟩ := op2
      simp at e
      rw [e]
    clear hrd hok
    go_enter Try.func33, Try.ntmps33
    go_wp2
    obtain ⟨r0, r1, r2, r3, r4⟩ := FIN.out _ HA.out.2 HA.out.1
    exact bodyPost_ret (v := joinR none) (by simp [results, Try.results33, go_sem, joinR, r0, r1, r2, r3, r4]) rfl ⟨rfl, HA.out.1⟩
  · have e1 : ((n : Int) == 2) = false := by simp; omega
    have e2 : ((n : Int) != 2) = true := by simp; omega
    clear hrd hok
    go_enter Try.func33, Try.ntmps33
    go_wp2
    obtain ⟨r0, r1, r2, r3, r4⟩ := FIN.out _ HA.out.2 HA.out.1
    exact bodyPost_ret (v := joinR none) (by simp [results, Try.results33, go_sem, joinR, r0, r1, r2, r3, r4]) rfl ⟨rfl, HA.out.1⟩
  · clear hok
    obtain ⟨ad, a', hA, hab, hv0, hat0⟩ := hrd.tm (k := 0) (by omega)
    obtain ⟨ad', b', hA', _, hv1, hat1⟩ := hrd.tm (k := 1) (by omega)
    subst hA
    injection hA' with hA'
    subst hA'
    simp at hv0 hv1
    subst hv0
    subst hv1
    have e0 : ad.add (0 * 11) = ad := by simp [Addr.add]
    have e1 : ad.add (1 * 11) = ⟨ad.block, ad.off + 11, none⟩ := by simp [Addr.add]
    rw [e0] at hat0
    rw [e1] at hat1
    have y0 := hat0.c0
    have z0 := hat1.c0
    clear hat0 hat1 e0 e1 hrd
    obtain ⟨u, hu⟩ : ∃ u, a.h.k = u := ⟨_, rfl⟩
    rw [hu] at y0 ha
    have e1 : (u == 2) = false := by simpa using ha
    have e2 : (u != 2) = true := by simpa using ha
    clear hu ha z0
    go_enter Try.func33, Try.ntmps33
    go_wp2
    obtain ⟨r0, r1, r2, r3, r4⟩ := FIN.out _ HA.out.2 HA.out.1
    exact bodyPost_ret (v := joinR none) (by simp [results, Try.results33, go_sem, joinR, r0, r1, r2, r3, r4]) rfl ⟨rfl, HA.out.1⟩
  · clear hok
    obtain ⟨ad, a', hA, hab, hv0, hat0⟩ := hrd.tm (k := 0) (by omega)
    obtain ⟨ad', b', hA', _, hv1, hat1⟩ := hrd.tm (k := 1) (by omega)
    subst hA
    injection hA' with hA'
    subst hA'
    simp at hv0 hv1
    subst hv0
    subst hv1
    have e0 : ad.add (0 * 11) = ad := by simp [Addr.add]
    have e1 : ad.add (1 * 11) = ⟨ad.block, ad.off + 11, none⟩ := by simp [Addr.add]
    rw [e0] at hat0
    rw [e1] at hat1
    have y0 := hat0.c0
    have z0 := hat1.c0
    clear hat0 hat1 e0 e1 hrd
    obtain ⟨u, hu⟩ : ∃ u, b.h.k = u := ⟨_, rfl⟩
    rw [hu] at z0 hb
    rw [ha] at y0
    have e1 : (u == 2) = false := by simpa using hb
    have e2 : (u != 2) = true := by simpa using hb
    clear hu hb ha
    go_enter Try.func33, Try.ntmps33
    go_wp2
    obtain ⟨r0, r1, r2, r3, r4⟩ := FIN.out _ HA.out.2 HA.out.1
    exact bodyPost_ret (v := joinR none) (by simp [results, Try.results33, go_sem, joinR, r0, r1, r2, r3, r4]) rfl ⟨rfl, HA.out.1⟩
theorem noJ_of (h : TmH) (A : Option Addr) (n c : Nat) (args : List Tm) (hl : args.length = n) (hj : jnT (.mk h A n c args) = none) : noJ h n args := by
  unfold noJ
  by_cases hk : h.k = 4
  · by_cases ho : h.op = ⟨#[61]⟩
    · by_cases hn : n = 2
      · subst hn
        match args, hl with
        | [a, b], _ =>
          by_cases ha : a.h.k = 2
          · by_cases hb : b.h.k = 2
            · simp [jnT, hk, ho, ha, hb] at hj
            · exact .inr (.inr (.inr (.inr ⟨hk, ho, rfl, a, b, rfl, ha, hb⟩)))
          · exact .inr (.inr (.inr (.inl ⟨hk, ho, rfl, a, b, rfl, ha⟩)))
      · exact .inr (.inr (.inl ⟨hk, ho, hn⟩))
    · exact .inr (.inl ⟨hk, ho⟩)
  · exact .inl hk
theorem yesJ_of (h : TmH) (A : Option Addr) (n c : Nat) (args : List Tm) (x : JT) (hj : jnT (.mk h A n c args) = some x) : ∃ a b, args = [a, b] ∧ h.k = 4 ∧ h.op = ⟨#[61]⟩ ∧ a.h.k = 2 ∧ b.h.k = 2 ∧ x = jnH a.h b.h := by
  unfold jnT at hj
  split at hj
  · rename_i h' A' n' c' a b heq
    injection heq with e1 e2 e3 e4 e5
    subst e1
    subst e5
    split at hj
    · rename_i hc
      injection hj with hj
      exact ⟨a, b, rfl, hc.1, hc.2.1, hc.2.2.1, hc.2.2.2, hj.symm⟩
    · cases hj
  · cases hj
theorem joinV_eq (a b : TmH) : Value.tuple #[joinV a b, .bool true] = joinR (some (jnH a b)) := by
  unfold joinV jnH joinR
  split <;> rfl
theorem join_any (t : Tm) (w : World) (hin : TmIn w w.heap.size t) : Calls Try.prog 33 #[t.agg] w (RetB w (joinR (jnT t))) := by
  have hl := hin.len
  obtain ⟨h, A, n, c, args⟩ := t
  cases hj : jnT (.mk h A n c args) with
  | none => exact join_no h A n c args (noJ_of h A n c args hl hj) w hin
  | some x =>
    obtain ⟨a, b, rfl, hk, ho, ha, hb, rfl⟩ := yesJ_of h A n c args x hj
    have hn : n = 2 := by simpa [Tm.args, Tm.n] using hl.symm
    subst hn
    rw [← joinV_eq]
    exact join_yes h A c a b hk ho ha hb w hin
end Go.Proofs.Ytbmfojeklhbocaa
