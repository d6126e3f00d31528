/-
  Several texts in one: Sj Dl Dm.
-/
import Derived.Test.YtdimkeoncgjegaaMbae
import Derived.Test.YtdimkeoncgjegaaMbao
import Derived.Test.YtdimkeoncgjegaaMbah
/-
  Slots of a heap page: the reference's Used, Room.
-/
namespace Go.Proofs.Ytdimkeoncgjegaa
section
open Go.RowKit

def tl (rs : List (List UInt8)) : Nat := (rs.map List.length).sum
theorem tl_tot (rs : List (List UInt8)) : tl rs = tot rs := by
  induction rs with
  | nil => rfl
  | cons r rs ih => rw [tot_cons]; unfold tl at *; simp only [List.map_cons, List.sum_cons]; omega
theorem tot_take_at {rs : List (List UInt8)} {i : Nat} {r : List UInt8} (h : rs[i]? = some r) : tot (rs.take (i + 1)) = tot (rs.take i) + r.length := by
  rw [List.take_add_one, h]; exact tot_snoc _ _
theorem tot_takes (rs : List (List UInt8)) (i : Nat) : tot (rs.take i) ≤ tot rs := by
  have h := tot_app (rs.take i) (rs.drop i)
  rw [List.take_append_drop] at h
  omega
section
variable {w : World} {A : Option Addr} {n c : Nat} {rs : List (List UInt8)}
theorem used_any (next : Int) (hr : Reads w w.heap.size 1 A n (sL rs)) (hn : n ≤ 1000000) (ht : tot rs ≤ 1000000) :
    Calls Try.prog 52 #[.agg #[.int .u32 next, .slice A n c]] w (RetB w (.int .i64 (8 + 4 * n + tot rs : Nat))) := by
  have hl : rs.length = n := by have := hr.1; rw [sL_len] at this; omega
  have HL := Lib.hid hl; clear hl
  have HT := Lib.hid ht; clear ht
  have hX := Blk.new w 41 #[.int .u32 next, .slice A n c]
  have hb := ball (Below.refl w.heap.size w) (.cells #[.int .u32 next, .slice A n c] 41)
  have hr := hr.alloc (Nat.le_refl _) (.cells #[.int .u32 next, .slice A n c] 41)
  have hnI : (n : Int) ≤ 1000000 := by omega
  go_enter Try.func52, Try.ntmps52
  go_wp2
  obtain ⟨W, hW⟩ : ∃ W, (w.alloc (.cells #[.int .u32 next, .slice A n c] 41)) = W := ⟨_, rfl⟩
  rw [hW] at hX hr hb ⊢
  clear hW
  have c1 := hX.cell 1
  go_loop [3, 8] (fun u v => ∃ k : Nat, u = .int .i64 (8 + 4 * k + tot (rs.take k) : Nat) ∧ v = .int .i64 k ∧ k ≤ n) (fun _ v => n - (intOf v).toNat)
  case atStart => exact ⟨0, rfl, rfl, by omega⟩
  case round =>
    obtain ⟨k, rfl, rfl, hk⟩ := hrel
    have g1 : (0 : Int) ≤ (k : Int) := by omega
    by_cases hki : k < n
    · have g2 : (k : Int) < (n : Int) := by omega
      obtain ⟨ad, r, rfl, _, hx, d2⟩ := hr.text hki
      have fs := Lib.hid (tot_take_at hx)
      have f1 := Nat.le_trans (tot_takes rs k) HT.out
      have f2 := Nat.le_trans (tot_takes rs (k + 1)) HT.out
      have hs := str_size r
      obtain ⟨F, hF⟩ : ∃ F, tot (rs.take k) = F := ⟨_, rfl⟩
      rw [fs.out, hF] at f2
      rw [hF] at fs f1 ⊢
      obtain ⟨s, hs'⟩ : ∃ s, str r = s := ⟨_, rfl⟩
      rw [hs'] at hs d2
      have Hs := Lib.hid hs
      have hI : (s.size : Int) ≤ 1000000 := by omega
      clear hF hx hs' hs f2
      go_wp2
      go_round
      case rel => exact ⟨k + 1, by rw [fs.out, ← Hs.out]; go_num, by go_num, by omega⟩
      case measure => simp [intOf]; omega
    · obtain rfl : n = k := by omega
      have e1 : rs.take n = rs := List.take_of_length_le (by rw [HL.out]; exact Nat.le_refl _)
      rw [e1]
      go_wp2
      go_ret
      exact ⟨rfl, hb⟩
theorem rroom_any (next : Int) (hr : Reads w w.heap.size 1 A n (sL rs)) (hn : n ≤ 1000000) (ht : tot rs ≤ 1000000) :
    Calls Try.prog 30 #[.agg #[.int .u32 next, .slice A n c]] w (RetB w (.int .i64 (508 - (8 + 4 * n + tot rs) : Nat))) := by
  have hX := Blk.new w 41 #[.int .u32 next, .slice A n c]
  have hb := ball (Below.refl w.heap.size w) (.cells #[.int .u32 next, .slice A n c] 41)
  have U := Lib.hid fun W (hW : Below w.heap.size w W) => used_any (c := c) next ((hr.below hW).more hW.size) hn ht
  obtain ⟨T, hT⟩ : ∃ T, 8 + 4 * n + tot rs = T := ⟨_, rfl⟩
  have hT2 : T ≤ 6000000 := by omega
  rw [hT] at U ⊢
  clear hT ht hr
  by_cases h5 : 508 < T
  · have h5I : (508 : Int) < (T : Int) := by omega
    go_enter Try.func30, Try.ntmps30
    go_wp2_with fail
    refine (U.out _ hb).mono ?_
    rintro e w1 ⟨rfl, hb1⟩
    go_wp2
    go_ret
    exact ⟨ret_int (by omega), bto0 hb hb1⟩
  · have h5I : (T : Int) ≤ 508 := by omega
    go_enter Try.func30, Try.ntmps30
    go_wp2_with fail
    refine (U.out _ hb).mono ?_
    rintro e w1 ⟨rfl, hb1⟩
    have c0 := (hX.below hb1 hX.lt).cell 0
    have c1 := (hX.below hb1 hX.lt).cell 1
    go_wp2_with fail
    refine (U.out _ (bto0 hb hb1)).mono ?_
    rintro e w2 ⟨rfl, hb2⟩
    go_wp2
    go_ret
    exact ⟨ret_int (by omega), bto0 (bto0 hb hb1) hb2⟩
end
end
end Go.Proofs.Ytdimkeoncgjegaa
/-
  Heads of pages: the reference's Number, zeros.
-/
namespace Go.Proofs.Ytdimkeoncgjegaa
section
open Go.RowKit

theorem str_append (a b : List UInt8) : str a ++ str b = str (a ++ b) := by
  apply ByteArray.ext
  apply Array.toList_inj.1
  simp [str, ByteArray.data_append]
theorem conv_one (W : World) (b : UInt8) (u : Int) (hu : u = (b.toNat : Int)) : (convert 59 9 (.slice (some ⟨W.heap.size, 0, none⟩) 1 1)).run Try.prog (W.alloc (.cells #[.int .u8 u] 5)) = .ok (.string (str [b])) (W.alloc (.cells #[.int .u8 u] 5)) := by
  subst hu
  exact conv_blk (l := [b]) (Blk.new W 5 _) _ 5 _ Try.underlying59 Try.underlying5 Try.underlying9 1 1 rfl

set_option maxHeartbeats 1000000 in
set_option maxRecDepth 100000 in
theorem dnum_any (N sz : Nat) (hN : N < 18446744073709551616) (hs : sz ≤ 100) (w : World) : Calls Try.prog 68 #[.int .u64 N, .int .i64 sz] w (RetB w (.string (str (be sz N)))) := by
  have HN := Lib.hid hN; clear hN
  have hsI : (sz : Int) ≤ 100 := by omega
  go_enter Try.func68, Try.ntmps68
  go_wp2
  go_loopw [0, 5, 6] (fun nv sv iv wr => ∃ j : Nat, j ≤ sz ∧ iv = .int .i64 j ∧ nv = .int .u64 ((N / 256 ^ j : Nat) : Int) ∧ sv = .string (str (be j N)) ∧ Below w.heap.size w wr) (fun _ _ iv _ => sz - (intOf iv).toNat)
  case atStart => exact ⟨0, by omega, rfl, by simp, rfl, Below.refl _ _⟩
  case round =>
    obtain ⟨j, hj, rfl, rfl, rfl, hb⟩ := hrel
    have q0 : (0 : Int) ≤ (j : Int) := by omega
    by_cases hlt : j < sz
    · have q1 : (j : Int) < (sz : Int) := by omega
      have hst : Hid (str [UInt8.ofNat (N / 256 ^ j)] ++ str (be j N) = str (be (j + 1) N)) := by
        show _ = _
        rw [str_append, be_cons]; rfl
      have hq : Hid (IntKind.u64.wrap (((N / 256 ^ j : Nat) : Int) / 256) = ((N / 256 ^ (j + 1) : Nat) : Int)) := by
        show _ = _
        have h1 : N / 256 ^ j ≤ N := Nat.div_le_self _ _
        have h2 := HN.out
        rw [IntKind.wrap_u64, Nat.pow_succ, ← Nat.div_div_eq_div_mul]
        generalize N / 256 ^ j = V at h1 ⊢
        omega
      have hz : ¬ 9223372036854775807 < (str [UInt8.ofNat (N / 256 ^ j)]).size + (str (be j N)).size := by
        rw [str_size, str_size, be_len]; simp; omega
      obtain ⟨s, hs'⟩ : ∃ s, str (be j N) = s := ⟨_, rfl⟩
      have cv := conv_one wr (UInt8.ofNat (N / 256 ^ j)) (((N / 256 ^ j : Nat) : Int) % 256) (by rw [u8_nat])
      have hV : N / 256 ^ j ≤ N := Nat.div_le_self _ _
      obtain ⟨V, hVe⟩ : ∃ V, N / 256 ^ j = V := ⟨_, rfl⟩
      rw [hVe] at hst hq cv hV hz ⊢
      rw [hs'] at hst hz ⊢
      have HV := Lib.hid hV
      obtain ⟨s1, hs1⟩ : ∃ s1, str [UInt8.ofNat V] = s1 := ⟨_, rfl⟩
      rw [hs1] at hst cv hz
      clear hs' hVe hs1 hV
      have g0 : (0 : Int) ≤ (V : Int) := by omega
      go_wp2
      go_roundw
      case rel => exact ⟨j + 1, by omega, by go_num, val_int hq.out, by rw [hst.out], ball hb _⟩
      case measure => simp [intOf]; omega
    · obtain rfl : j = sz := by omega
      go_wp2
      go_ret
      exact ⟨rfl, hb⟩

theorem zeros_any (n : Nat) (hn : n ≤ 3000000) (w : World) : Calls Try.prog 22 #[.int .i64 n] w (RetB w (.string (str (List.replicate n 0)))) := by
  obtain ⟨i0, hi0, hz0, hs0, hy0⟩ := int_info8 Try.infoB
  have hm : madeCells #[.int .u8 0] n = bV (List.replicate n 0) := by
    apply Array.ext
    · simp [size_madeCells, bV_size]
    · intro j h1 h2
      have hj : j < n := by simpa [size_madeCells] using h1
      have : (bV (List.replicate n 0))[j]? = some (.int .u8 ((0 : UInt8).toNat : Int)) := bV_at (by simp [hj])
      rw [Array.getElem?_eq_getElem h2] at this
      rw [Option.some.inj this]
      simp [madeCells, Nat.mod_one]
  have mk0 : ∀ W, (Instr.makeSlice 59 (.int .i64 (n : Int)) (.int .i64 (n : Int))).run Try.prog W = .ok (.slice (some ⟨W.heap.size, 0, none⟩) n n) (W.alloc (.cells (bV (List.replicate n 0)) 5)) := by
    intro W
    have h := run_make (P := Try.prog) W 59 5 i0 (.int .u8 0) Try.underlying59 hi0 hz0 .i64 .i64 n n (by omega) (by omega) (by rw [hy0]; omega) (by omega)
    rw [hs0, Int.toNat_natCast, Nat.mul_one] at h
    rw [← hm]
    exact h
  have cv : (convert 59 9 (.slice (some ⟨w.heap.size, 0, none⟩) n n)).run Try.prog (w.alloc (.cells (bV (List.replicate n 0)) 5)) = .ok (.string (str (List.replicate n 0))) (w.alloc (.cells (bV (List.replicate n 0)) 5)) :=
    conv_blk (l := List.replicate n 0) (Blk.new w 5 _) _ 5 _ Try.underlying59 Try.underlying5 Try.underlying9 n n List.length_replicate
  obtain ⟨s, hs⟩ : ∃ s, str (List.replicate n 0) = s := ⟨_, rfl⟩
  rw [hs] at cv ⊢
  obtain ⟨a, ha⟩ : ∃ a, bV (List.replicate n 0) = a := ⟨_, rfl⟩
  rw [ha] at cv mk0
  clear hi0 hz0 hs0 hy0 hm hs ha
  go_enter Try.func22, Try.ntmps22
  go_wp2
  go_ret
  exact ⟨rfl, ball (Below.refl _ _) _⟩
end
end Go.Proofs.Ytdimkeoncgjegaa
/-
  Heads of pages: the reference's Value, Head, Get.
-/
namespace Go.Proofs.Ytdimkeoncgjegaa
section
open Go.RowKit

theorem str_get {l : List UInt8} {j : Nat} {b : UInt8} (h : j < (str l).size) (hb : l[j]? = some b) : (str l)[j] = b := by
  have := str_at l j h
  rw [hb] at this
  exact (Option.some.inj this).symm
theorem val_step (U : Nat) (b : UInt8) (hU : U < 256 ^ 6) : IntKind.u64.wrap (IntKind.u64.wrap (256 * (U : Int)) + IntKind.u64.wrap (b.toNat : Int)) = ((256 * U + b.toNat : Nat) : Int) := by
  have hb := b.toNat_lt
  rw [IntKind.wrap_u64, IntKind.wrap_u64, IntKind.wrap_u64]
  omega
set_option maxRecDepth 100000 in
set_option maxHeartbeats 1000000 in
theorem dval_any (l : List UInt8) (hl : l.length ≤ 7) (w : World) : Calls Try.prog 75 #[.string (str l)] w fun e w' => e = .returned (.int .u64 (beVal l)) ∧ w = w' := by
  have hz : (str l).size ≤ 7 := by rw [str_size]; exact hl
  have hzl := Lib.hid (str_size l)
  go_enter Try.func75, Try.ntmps75
  go_wp2
  go_loop [3, 4] (fun uv iv => ∃ j : Nat, j ≤ l.length ∧ iv = .int .i64 j ∧ uv = .int .u64 ((beVal (l.take j) : Nat) : Int)) (fun _ iv => 10 - (intOf iv).toNat)
  case atStart => exact ⟨0, by omega, rfl, rfl⟩
  case round =>
    obtain ⟨j, hj, rfl, rfl⟩ := hrel
    have q0 : (0 : Int) ≤ (j : Int) := by omega
    by_cases hlt : j < (str l).size
    · have hlt' : j < l.length := by rw [← hzl.out]; exact hlt
      have hb : l[j]? = some l[j] := List.getElem?_eq_getElem hlt'
      have hg := Lib.hid (str_get hlt hb)
      have hbt := Lib.hid (beVal_take hb)
      have hU := beVal_lt_of (l := l.take j) (n := 6) (by rw [List.length_take]; omega)
      obtain ⟨b, hbe⟩ : ∃ b, l[j] = b := ⟨_, rfl⟩
      rw [hbe] at hg hbt
      have hor := Lib.hid (val_step (beVal (l.take j)) b hU)
      obtain ⟨U, hUe⟩ : ∃ U, beVal (l.take j) = U := ⟨_, rfl⟩
      rw [hUe] at hbt hor ⊢
      clear hbe hUe hU hb
      go_wp2
      go_round
      case rel => exact ⟨j + 1, by omega, by go_num, val_int (by rw [hg.out, hbt.out]; exact hor.out)⟩
      case measure => simp [intOf]; omega
    · have h1 : j = l.length := by have := hzl.out; omega
      have h2 : Hid (l.take j = l) := Lib.hid (List.take_of_length_le (by omega))
      rw [h2.out]
      clear h1
      go_wp2
      go_ret
      exact ⟨rfl, rfl⟩
end
end Go.Proofs.Ytdimkeoncgjegaa
