/-
  The reference's Number; one, four, text of a book.
-/
import Derived.Test.YtflolnilagogpaaIf
set_option linter.unusedSimpArgs false
set_option linter.unusedVariables false
namespace Go.Proofs.Ytflolnilagogpaa
open Go.RowKit

theorem str_append (a b : List UInt8) : str a ++ str b = str (a ++ b) := by
  apply ByteArray.ext
  apply Array.toList_inj.1
  simp [str, ByteArray.data_append]
theorem conv_one (W : World) (b : UInt8) (u : Int) (hu : u = (b.toNat : Int)) : (convert 28 9 (.slice (some ⟨W.heap.size, 0, none⟩) 1 1)).run Try.prog (W.alloc (.cells #[.int .u8 u] 5)) = .ok (.string (str [b])) (W.alloc (.cells #[.int .u8 u] 5)) := by
  subst hu
  exact conv_blk (l := [b]) (Blk.new W 5 _) _ 5 _ Try.underlying28 Try.underlying5 Try.underlying9 1 1 rfl

set_option maxHeartbeats 1000000 in
set_option maxRecDepth 100000 in
theorem dnum_any (N sz : Nat) (hN : N < 18446744073709551616) (hs : sz ≤ 100) (w : World) : Calls Try.prog 49 #[.int .u64 N, .int .i64 sz] w (RetB w (.string (str (be sz N)))) := by
  have HN := Lib.hid hN; clear hN
  have hsI : (sz : Int) ≤ 100 := by omega
  go_enter Try.func49, Try.ntmps49
  go_wp2
  go_loopw [0, 5, 6] (fun nv sv iv wr => ∃ j : Nat, j ≤ sz ∧ iv = .int .i64 j ∧ nv = .int .u64 ((N / 256 ^ j : Nat) : Int) ∧ sv = .string (str (be j N)) ∧ Below w.heap.size w wr) (fun _ _ iv _ => sz - (intOf iv).toNat)
  case atStart => exact ⟨0, by omega, rfl, by simp, rfl, Below.refl _ _⟩
  case round =>
    obtain ⟨j, hj, rfl, rfl, rfl, hb⟩ := hrel
    have q0 : (0 : Int) ≤ (j : Int) := by omega
    by_cases hlt : j < sz
    · have q1 : (j : Int) < (sz : Int) := by omega
      have hst : Hid (str [UInt8.ofNat (N / 256 ^ j)] ++ str (be j N) = str (be (j + 1) N)) := by
        show _ = _
        rw [str_append, be_cons]; rfl
      have hq : Hid (IntKind.u64.wrap (((N / 256 ^ j : Nat) : Int) / 256) = ((N / 256 ^ (j + 1) : Nat) : Int)) := by
        show _ = _
        have h1 : N / 256 ^ j ≤ N := Nat.div_le_self _ _
        have h2 := HN.out
        rw [IntKind.wrap_u64, Nat.pow_succ, ← Nat.div_div_eq_div_mul]
        generalize N / 256 ^ j = V at h1 ⊢
        omega
      have hz : ¬ 9223372036854775807 < (str [UInt8.ofNat (N / 256 ^ j)]).size + (str (be j N)).size := by
        rw [str_size, str_size, be_len]; simp; omega
      obtain ⟨s, hs'⟩ : ∃ s, str (be j N) = s := ⟨_, rfl⟩
      have cv := conv_one wr (UInt8.ofNat (N / 256 ^ j)) (((N / 256 ^ j : Nat) : Int) % 256) (by rw [u8_nat])
      have hV : N / 256 ^ j ≤ N := Nat.div_le_self _ _
      obtain ⟨V, hVe⟩ : ∃ V, N / 256 ^ j = V := ⟨_, rfl⟩
      rw [hVe] at hst hq cv hV hz ⊢
      rw [hs'] at hst hz ⊢
      have HV := Lib.hid hV
      obtain ⟨s1, hs1⟩ : ∃ s1, str [UInt8.ofNat V] = s1 := ⟨_, rfl⟩
      rw [hs1] at hst cv hz
      clear hs' hVe hs1 hV
      have g0 : (0 : Int) ≤ (V : Int) := by omega
      go_wp2
      go_roundw
      case rel => exact ⟨j + 1, by omega, by go_num, val_int hq.out, by rw [hst.out], ball hb _⟩
      case measure => simp [intOf]; omega
    · obtain rfl : j = sz := by omega
      go_wp2
      go_ret
      exact ⟨rfl, hb⟩

theorem wrap_id {z : Int} (h0 : 0 ≤ z) (h1 : z < 2147483648) : IntKind.u64.wrap z = z := by rw [IntKind.wrap_u64]; omega
theorem one_any (z : Int) (h0 : 0 ≤ z) (h1 : z < 2147483648) (w : World) : Calls Try.prog 28 #[.int .i64 z] w (RetB w (.string (str (oneB z)))) := by
  have D : Hid (∀ W : World, Calls Try.prog 49 #[.int .u64 (IntKind.u64.wrap z), .int .i64 1] W (RetB W (.string (str (oneB z))))) := Lib.hid fun W => by
    rw [wrap_id h0 h1]
    obtain ⟨N, rfl⟩ : ∃ N : Nat, z = N := ⟨z.toNat, by omega⟩
    exact dnum_any N 1 (by omega) (by omega) W
  clear h0 h1
  go_enter Try.func28, Try.ntmps28
  go_wp2_with fail
  refine (D.out _).mono ?_
  rintro e w1 ⟨rfl, hb1⟩
  go_wp2
  go_ret
  exact ⟨rfl, hb1⟩
theorem four_any (z : Int) (h : num31 z = true) (w : World) : Calls Try.prog 30 #[.int .i64 z] w (RetB w (.string (str (fourB z)))) := by
  obtain ⟨h0, h1⟩ := num31_iff.1 h
  have D : Hid (∀ W : World, Calls Try.prog 49 #[.int .u64 (IntKind.u64.wrap z), .int .i64 4] W (RetB W (.string (str (fourB z))))) := Lib.hid fun W => by
    rw [wrap_id h0 h1]
    obtain ⟨N, rfl⟩ : ∃ N : Nat, z = N := ⟨z.toNat, by omega⟩
    exact dnum_any N 4 (by omega) (by omega) W
  clear h0 h1 h
  go_enter Try.func30, Try.ntmps30
  go_wp2_with fail
  refine (D.out _).mono ?_
  rintro e w1 ⟨rfl, hb1⟩
  go_wp2
  go_ret
  exact ⟨rfl, hb1⟩
theorem text_any (s : ByteArray) (hs : s.size ≤ 24) (w : World) : Calls Try.prog 29 #[.string s] w (RetB w (.string (str (txtB s.data.toList)))) := by
  have D : Hid (∀ W : World, Calls Try.prog 49 #[.int .u64 (s.size : Int), .int .i64 1] W (RetB W (.string (str (oneB (s.size : Int)))))) := Lib.hid fun W => by
    exact dnum_any s.size 1 (by omega) (by omega) W
  have hz : ¬ 9223372036854775807 < (str (oneB (s.size : Int))).size + s.size := by rw [str_size]; simp [oneB]; omega
  have hv : Hid (str (oneB (s.size : Int)) ++ s = str (txtB s.data.toList)) := Lib.hid (by
    have h1 : str s.data.toList = s := by obtain ⟨⟨l⟩⟩ := s; rfl
    have h2 : txtB s.data.toList = oneB (s.size : Int) ++ s.data.toList := rfl
    rw [h2, ← str_append, h1])
  obtain ⟨s1, hs1⟩ : ∃ s1, str (oneB (s.size : Int)) = s1 := ⟨_, rfl⟩
  rw [hs1] at D hz hv
  clear hs1 hs
  go_enter Try.func29, Try.ntmps29
  go_wp2_with fail
  refine (D.out _).mono ?_
  rintro e w1 ⟨rfl, hb1⟩
  go_wp2
  go_ret
  exact ⟨by first | rfl | (rw [hv.out]; rfl) | rw [hv.out], hb1⟩
/-- How long what is written is. -/
theorem flat_le {α : Type} (f : α → List UInt8) (K : Nat) : ∀ l : List α, (∀ a ∈ l, (f a).length ≤ K) → (l.flatMap f).length ≤ K * l.length := by
  intro l
  induction l with
  | nil => intro _; simp
  | cons a r ih =>
    intro h
    have h1 := h a (by simp)
    have h2 := ih fun b hb => h b (by simp [hb])
    rw [List.flatMap_cons, List.length_append, List.length_cons, Nat.mul_add]
    omega
theorem four_len (z : Int) : (fourB z).length = 4 := by unfold fourB; exact be_len 4 _
theorem one_len (z : Int) : (oneB z).length = 1 := rfl
theorem txt_len (l : List UInt8) : (txtB l).length = l.length + 1 := rfl
theorem col_len {c : PC} (h : OkC c) : (colB c).length ≤ 34 := by
  have := nb_facts h.1
  unfold colB
  rw [List.length_append, List.length_append, List.length_append, txt_len, one_len, four_len, four_len]
  omega
theorem tab_len {t : PT} (h : MayT t) : (tabB t).length ≤ 400 := by
  have h1 := nb_facts h.1
  have h2 := flat_le colB 34 t.cols (fun c hc => by
    obtain ⟨i, hi, he⟩ := List.mem_iff_getElem.1 hc
    exact col_len (h.2.2.2.2.2.2 i hi c (by rw [List.getElem?_eq_getElem hi, he])).1)
  have h3 := h.2.2.1
  unfold tabB
  simp only [List.length_append, txt_len, one_len, four_len]
  omega
theorem idx_len {ts : List PT} {x : PX} (h : MayX ts x) : (idxB x).length ≤ 100 := by
  have h1 := nb_facts h.1
  have h2 := flat_le oneB 1 x.cs (fun c hc => Nat.le_refl _)
  have h4 := flat_le fourB 4 x.ds (fun c hc => by rw [four_len]; omega)
  have h3 := h.2.2.2.2.1
  have h5 := h.2.2.2.2.2.1
  unfold idxB
  simp only [List.length_append, txt_len, one_len, four_len]
  omega
end Go.Proofs.Ytflolnilagogpaa
