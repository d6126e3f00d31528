/-
  Several texts in one: Kb Kc Kt.
-/
import Derived.Test.YtgndebdoljnheaaGreatDoorMeax
import Derived.Test.YtgndebdoljnheaaGreatDoorMeal
import Derived.Test.YtgndebdoljnheaaGreatDoorMeao
import Derived.Test.YtgndebdoljnheaaGreatDoorMeaf
import Derived.Deep.RegionHeld3
import Derived.IntWalk
import Derived.Laws.Bits64
/-
  Keys as bytes: contract of the program's put.
-/
namespace Go.Proofs.YtgndebdoljnheaaGreatDoor
section
set_option linter.unusedSimpArgs false
set_option linter.unusedVariables false
open Go.RowKit

def escB (s : ByteArray) : ByteArray := ⟨(escL s.data.toList).toArray⟩
theorem escB_list (s : ByteArray) : (escB s).data.toList = escL s.data.toList := by simp [escB]
theorem escB_size (s : ByteArray) : (escB s).size ≤ 2 * s.size := by
  have h := escL_len s.data.toList
  have e : s.data.toList.length = s.size := rfl
  have e2 : (escB s).data.toList.length = (escB s).size := rfl
  rw [← e2, escB_list]
  omega
theorem esc_any (s : ByteArray) (w : World) (hm : MaxC w) (hs : s.size ≤ 10000) :
    Calls Tryz.prog 120 #[.string s, .string ⟨#[0]⟩, .string ⟨#[0, 255]⟩] w (RetB w (.string (escB s))) := by
  have h := repl_any s ⟨#[0]⟩ ⟨#[0, 255]⟩ w hm (by decide) hs (by decide)
  have e : repA s.data.toList (⟨#[0]⟩ : ByteArray).data.toList (⟨#[0, 255]⟩ : ByteArray).data.toList = escB s := by unfold repA escB; rw [← escL_eq]
  rw [e] at h
  exact h
theorem xor_nat (x : Nat) (hx : x < 2 ^ 64) : x ^^^ 2 ^ 63 = (2 ^ 63 + x) % 2 ^ 64 := by
  apply Nat.eq_of_testBit_eq
  intro i
  rw [Nat.testBit_xor, Nat.testBit_mod_two_pow, Nat.testBit_two_pow]
  by_cases h1 : i < 63
  · rw [Nat.testBit_two_pow_add_gt h1]
    have h2 : ¬ 63 = i := by omega
    have h3 : i < 64 := by omega
    simp [h2, h3]
  · by_cases h2 : i = 63
    · subst h2
      rw [Nat.testBit_two_pow_add_eq]
      simp
    · have h3 : ¬ i < 64 := by omega
      have h4 : ¬ 63 = i := by omega
      have h5 : x.testBit i = false := Nat.testBit_lt_two_pow (Nat.lt_of_lt_of_le hx (Nat.pow_le_pow_right (by decide) (by omega)))
      simp [h3, h4, h5]
theorem xor_top (i : Int) (h0 : -9223372036854775808 ≤ i) (h1 : i ≤ 9223372036854775807) : bits .xor .u64 (IntKind.u64.wrap i) 9223372036854775808 = (((i + 9223372036854775808).toNat : Nat) : Int) := by
  show IntKind.u64.wrap ((BitVec.ofInt 64 (IntKind.u64.wrap i) ^^^ BitVec.ofInt 64 9223372036854775808).toNat : Int) = _
  have e1 : (BitVec.ofInt 64 (IntKind.u64.wrap i)).toNat = (IntKind.u64.wrap i).toNat := by rw [BitVec.toNat_ofInt, IntKind.wrap_u64]; try omega
  have e2 : (BitVec.ofInt 64 9223372036854775808).toNat = 2 ^ 63 := by decide
  rw [BitVec.toNat_xor, e1, e2, xor_nat _ (by rw [IntKind.wrap_u64]; omega)]
  rw [IntKind.wrap_u64, IntKind.wrap_u64]
  omega
theorem shr_byte {U j : Nat} (hj : j < 8) : (U : Int) / 2 ^ (56 - 8 * j) % 256 = ((UInt8.ofNat (U / 256 ^ (8 - 1 - j))).toNat : Int) := by
  have h2 : (2 : Int) ^ (56 - 8 * j) = ((256 ^ (8 - 1 - j) : Nat) : Int) := by
    rw [show 56 - 8 * j = 8 * (8 - 1 - j) from by omega, Int.pow_mul, Int.natCast_pow]
    rfl
  rw [h2, u8_nat, Int.natCast_ediv]
def RetOwn (w : World) (base : Nat) (l : List UInt8) (e : Ending) (w' : World) : Prop := ∃ v', e = .returned v' ∧ Own w' base v' l ∧ Keeps base w w'
theorem two_reads (w : World) (x y : Int) {g : Nat} (hg : g = w.heap.size) {xb yb : UInt8} (hx : x = (xb.toNat : Int)) (hy : y = (yb.toNat : Int)) : Reads (w.alloc (.cells #[.int .u8 x, .int .u8 y] 5)) (g + 1) 1 (some ⟨g, 0, none⟩) 2 (bL [xb, yb]) := by
  subst hx hy hg
  exact reads_new w _ _ rfl rfl

set_option maxRecDepth 100000 in
set_option maxHeartbeats 2000000 in
theorem put_any (v : Vl) (hv : v.ok) (hsz : v.s.size ≤ 5000) (sv : Value) (l : List UInt8) (w : World) (base : Nat) (hm : MaxC w) (hown : Own w base sv l) (hb : base ≤ w.heap.size) (hb0 : 0 < base) (hlen : l.length ≤ 1000000) :
    Calls Tryz.prog 82 #[sv, v.agg] w (RetOwn w base (l ++ keyV v)) := by
  obtain ⟨k, i, s⟩ := v
  obtain ⟨⟨hk0, hk1⟩, ⟨hi0, hi1⟩, hs⟩ := hv
  simp only at hk0 hk1 hi0 hi1 hs hsz
  have hb1 : base ≤ (w.alloc (.cells #[.int .u8 k, .int .i64 i, .string s] 35)).heap.size := by simp; omega
  unfold keyV
  simp only
  by_cases h1 : k = 1
  · rw [if_pos h1]
    subst h1
    have WX := xor_top i hi0 hi1
    unfold keyI
    obtain ⟨U, hU⟩ : ∃ U : Nat, (i + 9223372036854775808).toNat = U := ⟨_, rfl⟩
    rw [hU] at WX ⊢
    have hU0 : (0 : Int) ≤ (U : Int) := by omega
    clear hU hi0 hi1 hm hs hsz hk0 hk1
    go_enter Tryz.func82, Tryz.ntmps82
    go_wp2_with (at_builtin; refine wpList_pushB rfl _ _ rfl base sv l 2 _ rfl (hown.alloc _) _ rfl (by simp) rfl (by omega) hb1 ?_; intro v1 w1 own1 kp1; have X1 := kp1.blk _ _ _ (by decide) (Blk.new w 35 _); have c0 := X1.cell 0; have c1 := X1.cell 1; have hb2 := Nat.le_trans hb1 kp1.size)
    go_loopw [0, 18] (fun bv iv wr => ∃ j : Nat, j ≤ 8 ∧ iv = .int .i64 j ∧ Own wr base bv (l ++ 2 :: (be 8 U).take j) ∧ Keeps base w wr ∧ Blk wr w.heap.size 35 #[.int .u8 1, .int .i64 i, .string s]) (fun _ iv _ => 8 - (intOf iv).toNat)
    case atStart => exact ⟨0, by omega, rfl, by simpa using own1, (Keeps.alloc_ hb _).trans kp1, X1⟩
    case round =>
      obtain ⟨j, hj, rfl, hown2, hkp, hX⟩ := hrel
      have q0 : (0 : Int) ≤ (j : Int) := by omega
      by_cases hlt : j < 8
      · have q1 : (j : Int) < 8 := by omega
        have hl2 : (l ++ 2 :: (be 8 U).take j).length ≤ 1000020 := by simp [be_len]; omega
        have hbr := Nat.le_trans hb hkp.size
        have U1 : Hid ((U : Int) / 2 ^ (56 - 8 * j) % 256 = ((UInt8.ofNat (U / 256 ^ (8 - 1 - j))).toNat : Int)) := Lib.hid (shr_byte hlt)
        go_wp2_with (at_builtin; refine wpList_pushB rfl _ _ rfl base u0 _ (UInt8.ofNat (U / 256 ^ (8 - 1 - j))) _ rfl hown2 _ rfl rfl U1.out (by omega) hbr ?_; intro v2 w2 own2 kp2)
        go_roundw
        case rel => exact ⟨j + 1, by omega, by go_num, by rw [be_take 8 U j hlt]; simpa using own2, hkp.trans kp2, kp2.blk _ _ _ (by decide) hX⟩
        case measure => simp [intOf]; omega
      · have hj8 : (be 8 U).take j = be 8 U := List.take_of_length_le (by rw [be_len]; omega)
        rw [hj8] at hown2
        clear hj8
        go_wp2
        go_ret
        exact ⟨_, rfl, hown2, hkp⟩
  · by_cases h2 : k = 2
    · rw [if_neg h1, if_pos h2]
      subst h2
      have U2 : Hid (i % 256 = ((UInt8.ofNat (i % 256).toNat).toNat : Int)) := by show i % 256 = _; simp; omega
      have hr2 := Lib.hid (two_reads (w.alloc (.cells #[.int .u8 2, .int .i64 i, .string s] 35)) 3 (i % 256) (g := w.heap.size + 1) (by simp) (xb := 3) (yb := UInt8.ofNat (i % 256).toNat) rfl U2.out)
      clear h1 hm
      go_enter Tryz.func82, Tryz.ntmps82
      go_wp2_with (at_builtin; refine wpList_appR rfl _ _ rfl base sv l [3, UInt8.ofNat (i % 256).toNat] _ _ _ _ rfl ((hown.alloc _).alloc _) rfl hr2.out (by simp; omega) (by simp; omega) ?_; intro v1 w1 own1 kp1)
      go_ret
      exact ⟨_, rfl, own1, ((Keeps.alloc_ hb _).trans (Keeps.alloc_ hb1 _)).trans kp1⟩
    · by_cases h3 : k = 3
      · rw [if_neg h1, if_neg h2, if_pos h3]
        subst h3
        have HE := Lib.hid fun W h => esc_any s W h (by omega)
        have hes := escB_size s
        have hel : (escB s).data.toList = escL s.data.toList := escB_list s
        obtain ⟨t, ht⟩ : ∃ t, escB s = t := ⟨_, rfl⟩
        rw [ht] at HE hes hel
        have hM1 := Lib.hid (hm.below0 ((Below.refl _ w).alloc (Nat.le_refl _) (.cells #[.int .u8 3, .int .i64 i, .string s] 35)))
        have HL := Lib.hid hel
        clear h1 h2 ht hm hel
        have hr2 := Lib.hid fun (W : World) => two_reads W 0 1 rfl (xb := 0) (yb := 1) rfl rfl
        go_enter Tryz.func82, Tryz.ntmps82
        go_wp2_with (first
          | (at_builtin; refine wpList_pushB rfl _ _ rfl base sv l 4 _ rfl (hown.alloc _) _ rfl (by simp) rfl (by omega) hb1 ?_; intro v1 w1 own1 kp1; have X1 := kp1.blk _ _ _ (by decide) (Blk.new w 35 _); have c0 := X1.cell 0; have c1 := X1.cell 1; have c2 := X1.cell 2; have hb2 := Nat.le_trans hb1 kp1.size)
          | (go_at_call 120; (with_reducible refine (HE.out _ (hM1.out.below (kp1.below base _ (Nat.le_refl _) (Below.refl _ _)) hb0)).mono ?_); rintro e w2 ⟨rfl, hw2⟩; have own2 := own1.below hw2; have hb3 := Nat.le_trans hb2 hw2.size)
          | (at_builtin; refine wpList_appS rfl _ _ rfl base v1 _ t rfl own2 rfl (by simp; omega) hb3 ?_; intro v3 w3 own3 kp3; have hb4 := Nat.le_trans hb3 kp3.size)
          | (at_builtin; refine wpList_appR rfl _ _ rfl base v3 _ [0, 1] _ _ _ _ rfl (own3.alloc _) rfl (hr2.out _) (by have := congrArg List.length HL.out; have e2 : t.data.toList.length = t.size := rfl; simp only [List.length_append, List.length_cons, List.length_nil]; omega) (by simp; omega) ?_; intro v4 w4 own4 kp4))
        go_ret
        exact ⟨_, rfl, by rw [HL.out] at own4; simpa using own4, ((((Keeps.alloc_ hb _).trans kp1).trans (Keeps.of_below hb2 hw2)).trans kp3).trans ((Keeps.alloc_ hb4 _).trans kp4)⟩
      · have e1 : (k == 1) = false := by simp; omega
        have e2 : (k == 2) = false := by simp; omega
        have e3 : (k == 3) = false := by simp; omega
        rw [if_neg h1, if_neg h2, if_neg h3]
        clear h1 h2 h3 hm
        go_enter Tryz.func82, Tryz.ntmps82
        go_wp2_with (at_builtin; refine wpList_pushB rfl _ _ rfl base sv l 1 _ rfl (hown.alloc _) _ rfl (by simp) rfl (by omega) hb1 ?_; intro v1 w1 own1 kp1)
        go_ret
        exact ⟨_, rfl, own1, (Keeps.alloc_ hb _).trans kp1⟩
end
end Go.Proofs.YtgndebdoljnheaaGreatDoor
/-
  Keys as bytes: contract of the program's Put; the chapter's example.
-/
namespace Go.Proofs.YtgndebdoljnheaaGreatDoor
section
set_option linter.unusedSimpArgs false
set_option linter.unusedVariables false
open Go.RowKit

theorem Own.conv {w : World} {base : Nat} {A : Option Addr} {n c : Nat} {l : List UInt8} (h : Own w base (.slice A n c) l) :
    (convert 74 9 (.slice A n c)).run Tryz.prog w = .ok (.string (str l)) w :=
  conv_reads h.reads.1 _ 5 _ Tryz.underlying74 Tryz.underlying5 Tryz.underlying9 c
def RetPut (w : World) (l : List Vl) (e : Ending) (w' : World) : Prop := e = .returned (.tuple #[.string (str (kS l)), .int .i64 (kE l)]) ∧ Below w.heap.size w w'
theorem all_take {l : List Vl} {k : Nat} {v : Vl} (h : l[k]? = some v) (ha : allMay (l.take k) = true) (hm : mayV v = true) : allMay (l.take (k + 1)) = true := by
  rw [List.take_add_one, h]; unfold allMay at *; rw [List.all_append]; simp [hm, ha]
theorem all_no {l : List Vl} {k : Nat} {v : Vl} (h : l[k]? = some v) (hm : mayV v = false) : allMay l = false := by
  unfold allMay
  rw [Bool.eq_false_iff]
  intro h'
  rw [List.all_eq_true] at h'
  have := h' v (List.mem_of_getElem? h)
  rw [hm] at this; cases this

set_option maxRecDepth 100000 in
set_option maxHeartbeats 2000000 in
theorem kput_any2 (A : Option Addr) (n c : Nat) (l : List Vl) (w : World) (hm : MaxC w) (hr : Reads w w.heap.size 3 A n (vV l)) (hok : ∀ v ∈ l, v.ok) (g1 : l.length ≤ 5000) (g2 : ∀ v ∈ l, v.s.size ≤ 5000) (g3 : (keyR l).length ≤ 900000) :
    Calls Tryz.prog 44 #[.slice A n c] w (RetPut w l) := by
  have hl : l.length = n := by have := hr.1; rw [vV_len] at this; omega
  have hn : n ≤ 5000 := by omega
  have hnI : (n : Int) ≤ 5000 := by omega
  have Hl := Lib.hid hl; clear hl
  have HMx := Lib.hid fun (W : World) (hb : Below w.heap.size w W) => hm.below0 hb
  have hlt0 := hm.lt
  clear hm
  go_enter Tryz.func44, Tryz.ntmps44
  go_wp2
  go_loopw [4, 9] (fun bv iv wr => ∃ k : Nat, k ≤ n ∧ iv = .int .i64 k ∧ allMay (l.take k) = true ∧ Own wr w.heap.size bv (keyR (l.take k)) ∧ Below w.heap.size w wr) (fun _ iv _ => n - (intOf iv).toNat)
  case atStart => exact ⟨0, by omega, rfl, rfl, Own.nil _ _, Below.refl _ _⟩
  case round =>
    obtain ⟨k, hk, rfl, ha, hown, hb⟩ := hrel
    have Ha := Lib.hid ha; clear ha
    have q0 : (0 : Int) ≤ (k : Int) := by omega
    by_cases hlt : k < n
    · have q1 : (k : Int) < (n : Int) := by omega
      obtain ⟨ad, v, rfl, hab, hv, d0, d1, d2⟩ := (hr.below hb).val hlt
      have hvok := hok v (List.mem_of_getElem? hv)
      have hvsz := g2 v (List.mem_of_getElem? hv)
      have hft := key_take_len l k
      have M := fun W => may_any v hvok W
      have P := fun W bv hM hW hb' => put_any v hvok (by omega) bv (keyR (l.take k)) W w.heap.size hM hW hb' hlt0 (by omega)
      have HP := Lib.hid P; clear P
      have Hv := Lib.hid hv; clear hv hft hvsz hvok
      have hbs := hb.size
      by_cases hmv : mayV v = true
      · rw [hmv] at M
        have HM := Lib.hid hmv; clear hmv
        have MM := Lib.hid M; clear M
        obtain ⟨vk, vi, vs⟩ := v
        unfold Vl.agg at MM HP
        simp only at d0 d1 d2 MM HP
        go_wp2_with fail
        refine (MM.out _).mono ?_
        rintro e w1 ⟨rfl, hb1⟩
        have hz1 : wr.heap.size < w1.heap.size := by have := hb1.size; simp at this; omega
        obtain ⟨c0, c1, c2, f0, f1, f2⟩ := (At3.new wr vk vi vs 35).below hb1 (by simp)
        have hbw : Below w.heap.size w w1 := bto0 (ball hb _) hb1
        have own1 := (hown.alloc (.cells #[.int .u8 vk, .int .i64 vi, .string vs] 35)).below hb1
        go_wp2_with fail
        refine (HP.out _ _ (HMx.out _ hbw) own1 hbw.size).mono ?_
        rintro e w2 ⟨v2, rfl, own2, hk2⟩
        go_wp2
        go_roundw
        case rel => exact ⟨k + 1, by omega, by go_num, all_take Hv.out Ha.out HM.out, by rw [key_take Hv.out]; exact own2, hk2.below _ _ (Nat.le_refl _) hbw⟩
        case measure => simp [intOf]; omega
      · have hm' : mayV v = false := by simpa using hmv
        rw [hm'] at M
        have MM := Lib.hid M; clear M
        have hf := all_no Hv.out hm'
        have HF := Lib.hid hf; clear hf hmv hm' HP
        obtain ⟨vk, vi, vs⟩ := v
        unfold Vl.agg at MM
        simp only at d0 d1 d2 MM
        go_wp2_with fail
        refine (MM.out _).mono ?_
        rintro e w1 ⟨rfl, hb1⟩
        go_wp2
        go_ret2
        exact ⟨by unfold kE kS; rw [HF.out]; rfl, bto0 (ball hb _) hb1⟩
    · obtain rfl : k = n := by omega
      have hT : l.take k = l := List.take_of_length_le (by rw [Hl.out]; exact Nat.le_refl _)
      have hall : allMay l = true := by have := Ha.out; rwa [hT] at this
      have HA := Lib.hid hall; clear hall Ha
      rw [hT] at hown
      clear hT
      obtain ⟨A5, c5, rfl, hc5⟩ := hown.form
      have hcv := hown.conv
      have hfin : Hid (str (keyR l) = str (kS l) ∧ kE l = 0) := Lib.hid (by unfold kE kS; rw [HA.out]; exact ⟨rfl, rfl⟩)
      clear hown
      go_wp2
      go_ret2
      exact ⟨by rw [← hfin.out.1, hfin.out.2]; rfl, hb⟩
theorem kput_any (A : Option Addr) (n c : Nat) (l : List Vl) (w : World) (hm : MaxC w) (hr : Reads w w.heap.size 3 A n (vV l)) (hok : ∀ v ∈ l, v.ok) (hg : grV 0 l = false) :
    Calls Tryz.prog 44 #[.slice A n c] w (RetPut w l) :=
  kput_any2 A n c l w hm hr hok (grV_bd hg).1 (grV_bd hg).2.1 (by have := (grV_bd hg).2.2; omega)
theorem kput_e {A : Option Addr} {n c : Nat} {l : List Vl} {w : World} {s : ByteArray} {e : Int} (hs : str (kS l) = s) (he : kE l = e) (h : Calls Tryz.prog 44 #[.slice A n c] w (RetPut w l)) :
    Calls Tryz.prog 44 #[.slice A n c] w (RetB w (.tuple #[.string s, .int .i64 e])) := by
  subst hs he
  exact h
end
end Go.Proofs.YtgndebdoljnheaaGreatDoor
/-
  Keys as bytes: contract of the reference's number.
-/
namespace Go.Proofs.YtgndebdoljnheaaGreatDoor
section
set_option linter.unusedSimpArgs false
set_option linter.unusedVariables false
open Go.RowKit

theorem bV_set (l : List UInt8) (i : Nat) (b : UInt8) : (bV l).setIfInBounds i (.int .u8 (b.toNat : Int)) = bV (l.set i b) := by
  simp [bV, bL, List.map_set]
def low (m : Nat) (U : Nat) : List UInt8 := List.replicate m 0 ++ be (8 - m) U
theorem low_set (m U : Nat) (hm : m < 8) : (low (m + 1) U).set m (UInt8.ofNat (U / 256 ^ (7 - m))) = low m U := by
  unfold low
  rw [show 8 - m = (8 - (m + 1)) + 1 from by omega, be_cons, show 8 - (m + 1) = 7 - m from by omega, List.replicate_succ']
  rw [List.set_append]
  simp
theorem low_at (m U : Nat) : (bV (low (m + 1) U))[m]? = some (.int .u8 0) := by
  have : (low (m + 1) U)[m]? = some 0 := by
    unfold low
    rw [List.getElem?_append_left (by simp)]
    simp
  exact bV_at this
theorem zero8 (U : Nat) : madeCells #[.int .u8 0] 8 = bV (low 8 U) := by
  show _ = bV (List.replicate 8 0 ++ [])
  kernel_rfl
theorem num_step {m U V : Nat} (hm : m < 8) (h : U / 256 ^ (8 - (m + 1)) = V) (hU : (U : Int) < 18446744073709551616) : IntKind.u64.wrap ((V : Int) / 256) = ((U / 256 ^ (8 - m) : Nat) : Int) := by
  have hV : V ≤ U := by rw [← h]; exact Nat.div_le_self _ _
  rw [IntKind.wrap_u64, show 8 - m = (8 - (m + 1)) + 1 from by omega, Nat.pow_succ, ← Nat.div_div_eq_div_mul, h]
  omega
theorem num_byte {m U V : Nat} (hm : m < 8) (h : U / 256 ^ (8 - (m + 1)) = V) : (V : Int) % 256 = ((UInt8.ofNat (U / 256 ^ (7 - m))).toNat : Int) := by
  rw [show 7 - m = 8 - (m + 1) from by omega, h, u8_nat]
def RetNum (w : World) (U : Nat) (e : Ending) (w' : World) : Prop := e = .returned (.slice (some ⟨w.heap.size, 0, none⟩) 8 8) ∧ Blk w' w.heap.size 5 (bV (be 8 U)) ∧ Below w.heap.size w w'
set_option maxHeartbeats 1000000 in
theorem rnum5_any (i : Int) (U : Nat) (hU : (U : Int) = i + 9223372036854775808) (hUb : (U : Int) < 18446744073709551616) (w : World) : Calls Tryz.prog 28 #[.int .i64 i] w (RetNum w U) := by
  obtain ⟨i0, hi0, hz0, hs0, hy0⟩ := int_info8 Tryz.infoB
  have mk0 : ∀ W, (Instr.makeSlice 74 (.int .i64 8) (.int .i64 8)).run Tryz.prog W = .ok (.slice (some ⟨W.heap.size, 0, none⟩) 8 8) (W.alloc (.cells (bV (low 8 U)) 5)) := by
    intro W
    have h := run_make (P := Tryz.prog) W 74 5 i0 (.int .u8 0) Tryz.underlying74 hi0 hz0 .i64 .i64 8 8 (by omega) (by omega) (by rw [hy0]; omega) (by omega)
    rw [hs0] at h
    rw [← zero8 U]
    exact h
  clear hi0 hz0 hs0 hy0
  have cvU : IntKind.u64.wrap (IntKind.u64.wrap i + 9223372036854775808) = (U : Int) := by rw [IntKind.wrap_u64, IntKind.wrap_u64]; omega
  have HUb := Lib.hid hUb
  clear hUb hU
  go_enter Tryz.func28, Tryz.ntmps28
  go_wp2
  clear cvU mk0
  go_loopw [3, 5] (fun uv iv wr => ∃ m : Nat, m ≤ 8 ∧ iv = .int .i64 ((m : Int) - 1) ∧ uv = .int .u64 ((U / 256 ^ (8 - m) : Nat) : Int) ∧ Blk wr w.heap.size 5 (bV (low m U)) ∧ Below w.heap.size w wr) (fun _ iv _ => ((intOf iv) + 1).toNat)
  case atStart => exact ⟨8, by omega, rfl, by simp, Blk.new _ _ _, ball (Below.refl _ _) _⟩
  case round =>
    obtain ⟨m, hm, rfl, rfl, hB, hb⟩ := hrel
    cases m with
    | zero =>
      have hE : low 0 U = be 8 U := rfl
      rw [hE] at hB
      clear hE
      go_wp2
      go_ret
      exact ⟨rfl, hB, hb⟩
    | succ m =>
      have e1 : ((m + 1 : Nat) : Int) - 1 = (m : Int) := by omega
      rw [e1]
      clear e1
      have g1 : (0 : Int) ≤ (m : Int) := by omega
      have g2 : (m : Int) < 8 := by omega
      obtain ⟨V, hV⟩ : ∃ V : Nat, U / 256 ^ (8 - (m + 1)) = V := ⟨_, rfl⟩
      rw [hV]
      have HV := Lib.hid hV; clear hV
      have c1 : wr.cell? ⟨w.heap.size, m, none⟩ = some (.int .u8 0) := (hB.cell m).trans (low_at m U)
      have f1 := hB.frozen m
      have g3 : (0 : Int) ≤ (V : Int) := by omega
      go_wp2
      go_roundw
      case rel => exact ⟨m, by omega, rfl, val_int (num_step (by omega) HV.out HUb.out), by rw [← low_set m U (by omega), ← bV_set]; rw [← num_byte (by omega) HV.out]; exact hB.set_ m _, hb.setCell (Nat.le_refl _) _⟩
      case measure => simp [intOf]
end
end Go.Proofs.YtgndebdoljnheaaGreatDoor
