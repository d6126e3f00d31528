/-
  Rows as bytes: contract of the program's Put, Size.
-/
import Derived.Test.YtcpbkaeilmabaabRa
import Derived.Test.YtcpbkaeilmabaabMay
import Derived.Test.YtcpbkaeilmabaabGr
namespace Go.Proofs.Ytcpbkaeilmabaab
open Go.RowKit

def encRow (l : List Vl) : List UInt8 := UInt8.ofNat l.length :: l.flatMap encV
def allMay (l : List Vl) : Bool := l.all mayV
def putE (l : List Vl) : Int := if allMay l then (if 255 < l.length then 15 else 0) else 1
def putB (l : List Vl) : List UInt8 := if allMay l then (if 255 < l.length then [] else encRow l) else []
theorem encV_len (v : Vl) : (encV v).length ≤ 10 + v.s.size := by
  unfold encV
  split
  · simp [be_len]; omega
  · split
    · simp; omega
    · split
      · have : v.s.data.toList.length = v.s.size := rfl
        simp only [List.length_cons, this]; omega
      · simp; omega
theorem grV_sum : ∀ (l : List Vl) (q : Int), 0 ≤ q → grV q l = false → q + ((l.map fun v => 1 + v.s.size).sum : Nat) ≤ 5000 ∨ l = []
  | [], q, _, _ => .inr rfl
  | v :: r, q, hq, h => by
    left
    unfold grV at h
    by_cases ht : 5000 < q + (1 + min (v.s.size : Int) 9000)
    · rw [if_pos ht] at h; cases h
    · rw [if_neg ht] at h
      rcases grV_sum r _ (by omega) h with h2 | rfl
      · simp only [List.map_cons, List.sum_cons]; omega
      · simp only [List.map_cons, List.sum_cons, List.map_nil, List.sum_nil]; omega
theorem sum_mem : ∀ (l : List Vl), l.length ≤ (l.map fun v => 1 + v.s.size).sum ∧ (∀ v ∈ l, v.s.size ≤ (l.map fun v => 1 + v.s.size).sum) ∧ (l.flatMap encV).length ≤ 10 * (l.map fun v => 1 + v.s.size).sum
  | [] => by simp
  | v :: r => by
    obtain ⟨h1, h2, h3⟩ := sum_mem r
    have hv := encV_len v
    simp only [List.length_cons, List.map_cons, List.sum_cons, List.flatMap_cons, List.length_append]
    refine ⟨by omega, ?_, by omega⟩
    intro u hu
    rcases List.mem_cons.1 hu with rfl | hu
    · omega
    · have := h2 u hu; omega
theorem grV_bd {l : List Vl} (h : grV 0 l = false) : l.length ≤ 5000 ∧ (∀ v ∈ l, v.s.size ≤ 5000) ∧ (l.flatMap encV).length ≤ 50000 := by
  rcases grV_sum l 0 (by omega) h with h1 | rfl
  · obtain ⟨a, b, c⟩ := sum_mem l
    refine ⟨by omega, fun v hv => ?_, by omega⟩
    have := b v hv; omega
  · simp
theorem flat_take {l : List Vl} {k : Nat} {v : Vl} (h : l[k]? = some v) : (l.take (k + 1)).flatMap encV = (l.take k).flatMap encV ++ encV v := by
  rw [List.take_add_one, h]; simp
theorem flat_take_len (l : List Vl) (k : Nat) : ((l.take k).flatMap encV).length ≤ (l.flatMap encV).length := by
  conv => rhs; rw [← List.take_append_drop k l, List.flatMap_append, List.length_append]
  omega
def RetPut (w : World) (l : List Vl) (e : Ending) (w' : World) : Prop := ∃ v', e = .returned (.tuple #[v', .int .i64 (putE l)]) ∧ Own w' w.heap.size v' (putB l) ∧ Below w.heap.size w w'

set_option maxHeartbeats 2000000 in
theorem rput_any (A : Option Addr) (n c : Nat) (l : List Vl) (w : World) (hr : Reads w w.heap.size 3 A n (vV l)) (hok : ∀ v ∈ l, v.ok) (hg : grV 0 l = false) :
    Calls Try.prog 15 #[.slice A n c] w (RetPut w l) := by
  obtain ⟨g1, g2, g3⟩ := grV_bd hg
  have hl : l.length = n := by have := hr.1; rw [vV_len] at this; omega
  have hn : n ≤ 5000 := by omega
  have hnI : (n : Int) ≤ 5000 := by omega
  have Hl := Lib.hid hl; clear hl hg
  go_enter Try.func15, Try.ntmps15
  go_wp2
  go_loopw [11] (fun iv wr => ∃ k : Nat, k ≤ n ∧ iv = .int .i64 k ∧ allMay (l.take k) = true ∧ Below w.heap.size w wr) (fun iv _ => n - (intOf iv).toNat)
  case atStart => exact ⟨0, by omega, rfl, rfl, Below.refl _ _⟩
  case round =>
    obtain ⟨k, hk, rfl, ha, hb⟩ := hrel
    have Ha := Lib.hid ha; clear ha
    have q0 : (0 : Int) ≤ (k : Int) := by omega
    by_cases hlt : k < n
    · have q1 : (k : Int) < (n : Int) := by omega
      obtain ⟨ad, v, rfl, hab, hv, d0, d1, d2⟩ := (hr.below hb).val hlt
      have hvok := hok v (List.mem_of_getElem? hv)
      have M := fun W => may_any v hvok W
      have Hv := Lib.hid hv; clear hv
      have hbs := hb.size
      by_cases hm : mayV v = true
      · rw [hm] at M
        have HM := Lib.hid hm; clear hm
        have MM := Lib.hid M; clear M
        obtain ⟨vk, vi, vs⟩ := v
        simp only at d0 d1 d2
        go_wp2_with (go_at_call 39; (with_reducible refine (MM.out _).mono ?_); rintro e w1 ⟨rfl, hb1⟩)
        go_roundw
        case rel => exact ⟨k + 1, by omega, by go_num, by rw [List.take_add_one, Hv.out]; unfold allMay; rw [List.all_append]; simp only [Option.toList, List.all_cons, List.all_nil, HM.out, Bool.and_true]; exact Ha.out, bto0 (ball hb _) hb1⟩
        case measure => simp [intOf]; omega
      · have hm' : mayV v = false := by simpa using hm
        rw [hm'] at M
        have HM := Lib.hid hm'; clear hm hm'
        have MM := Lib.hid M; clear M
        have hf : allMay l = false := by
          unfold allMay
          rw [Bool.eq_false_iff]
          intro h
          rw [List.all_eq_true] at h
          have := h v (List.mem_of_getElem? Hv.out)
          rw [HM.out] at this; cases this
        have HF := Lib.hid hf; clear hf
        obtain ⟨vk, vi, vs⟩ := v
        simp only at d0 d1 d2
        go_wp2_with (go_at_call 39; (with_reducible refine (MM.out _).mono ?_); rintro e w1 ⟨rfl, hb1⟩)
        go_ret2
        exact ⟨.slice none 0 0, by unfold putE; rw [HF.out]; rfl, by unfold putB; rw [HF.out]; exact Own.nil _ _, bto0 (ball hb _) hb1⟩
    · obtain rfl : k = n := by omega
      have hall : allMay l = true := by have := Ha.out; rwa [List.take_of_length_le (by rw [Hl.out]; omega)] at this
      have HA := Lib.hid hall; clear hall Ha
      by_cases h255 : 255 < k
      · have hI : (255 : Int) < (k : Int) := by omega
        go_wp2
        go_ret2
        exact ⟨.slice none 0 0, by unfold putE; rw [HA.out, Hl.out, if_pos rfl, if_pos h255]; rfl, by unfold putB; rw [HA.out, Hl.out, if_pos rfl, if_pos h255]; exact Own.nil _ _, hb⟩
      · have hI : (k : Int) ≤ 255 := by omega
        have hE : putE l = 0 := by unfold putE; rw [HA.out, Hl.out, if_pos rfl, if_neg h255]
        have hB : putB l = UInt8.ofNat k :: l.flatMap encV := by unfold putB; rw [HA.out, Hl.out, if_pos rfl, if_neg h255]; unfold encRow; rw [Hl.out]
        have HE := Lib.hid hE; clear hE
        have HB := Lib.hid hB; clear hB
        have hk8 : ((UInt8.ofNat k).toNat : Int) = (k : Int) := by rw [u8_nat]; omega
        have hown0 : Own (wr.alloc (.cells #[.int .u8 (k : Int)] 5)) w.heap.size (.slice (some ⟨wr.heap.size, 0, none⟩) 1 1) [UInt8.ofNat k] := by
          refine Own.new (l := [UInt8.ofNat k]) ?_ (by simp [maxLen]) hb.size rfl
          have e : bV [UInt8.ofNat k] = #[.int .u8 (k : Int)] := by show #[Value.int .u8 ((UInt8.ofNat k).toNat : Int)] = _; rw [hk8]
          rw [e]
          exact Blk.new _ _ _
        have hb0 : Below w.heap.size w (wr.alloc (.cells #[.int .u8 (k : Int)] 5)) := ball hb _
        clear hk8
        go_wp2
        obtain ⟨w0, hw0⟩ : ∃ w0, wr.alloc (.cells #[.int .u8 (k : Int)] 5) = w0 := ⟨_, rfl⟩
        rw [hw0] at hown0 hb0 ⊢
        clear hw0 hb
        clear hk
        go_loopw [6, 28] (fun bv iv wr => ∃ j : Nat, j ≤ k ∧ iv = .int .i64 j ∧ Own wr w.heap.size bv (UInt8.ofNat k :: (l.take j).flatMap encV) ∧ Below w.heap.size w wr) (fun _ iv _ => k - (intOf iv).toNat)
        case atStart => exact ⟨0, by omega, rfl, by simpa using hown0, hb0⟩
        case round =>
          obtain ⟨j, hj, rfl, hown, hb⟩ := hrel
          have q0 : (0 : Int) ≤ (j : Int) := by omega
          by_cases hlt : j < k
          · have q1 : (j : Int) < (k : Int) := by omega
            obtain ⟨ad, v, rfl, hab, hv, d0, d1, d2⟩ := (hr.below hb).val hlt
            have hvok := hok v (List.mem_of_getElem? hv)
            have hvsz := g2 v (List.mem_of_getElem? hv)
            have hft := flat_take_len l j
            have P := fun W hW hb' => put_any v hvok (by omega) u6 (UInt8.ofNat k :: (l.take j).flatMap encV) W w.heap.size hW hb' (by simp only [List.length_cons]; omega)
            have HP := Lib.hid P; clear P
            have Hv := Lib.hid hv; clear hv hft
            have hbs := hb.size
            obtain ⟨vk, vi, vs⟩ := v
            simp only at d0 d1 d2
            go_wp2_with (go_at_call 40; (with_reducible refine (HP.out _ (hown.alloc _) (by simp; omega)).mono ?_); rintro e w1 ⟨v1, rfl, hown1, hk1⟩)
            go_roundw
            case rel => exact ⟨j + 1, by omega, by go_num, by rw [flat_take Hv.out]; simpa using hown1, hk1.below _ _ (Nat.le_refl _) (ball hb _)⟩
            case measure => simp [intOf]; omega
          · obtain rfl : j = k := by omega
            have hT : l.take j = l := List.take_of_length_le (by rw [Hl.out]; omega)
            rw [hT] at hown
            clear hT
            go_wp2
            go_ret2
            exact ⟨u6, by rw [HE.out]; rfl, by rw [HB.out]; exact hown, hb⟩
theorem putB_len (l : List Vl) (hg : grV 0 l = false) : (putB l).length ≤ 60000 := by
  obtain ⟨g1, g2, g3⟩ := grV_bd hg
  unfold putB
  split
  · split
    · simp
    · simp only [encRow, List.length_cons]; omega
  · simp
theorem rsize_any (A : Option Addr) (n c : Nat) (l : List Vl) (w : World) (hr : Reads w w.heap.size 3 A n (vV l)) (hok : ∀ v ∈ l, v.ok) (hg : grV 0 l = false) :
    Calls Try.prog 17 #[.slice A n c] w (RetB w (.int .i64 (putB l).length)) := by
  have P := Lib.hid (rput_any A n c l w hr hok hg)
  go_enter Try.func17, Try.ntmps17
  go_wp2_with fail
  refine P.out.mono ?_
  rintro e w1 ⟨v1, rfl, hown, hb⟩
  obtain ⟨A', c', rfl, _⟩ := hown.form
  go_wp2
  go_ret
  exact ⟨rfl, hb⟩
end Go.Proofs.Ytcpbkaeilmabaab
