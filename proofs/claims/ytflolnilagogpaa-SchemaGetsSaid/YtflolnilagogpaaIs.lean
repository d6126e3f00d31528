/-
  The program's writing: texts, numbers.
-/
import Derived.Test.YtflolnilagogpaaIb
import Derived.Test.YtflolnilagogpaaOw
set_option linter.unusedSimpArgs false
set_option linter.unusedVariables false
namespace Go.Proofs.Ytflolnilagogpaa
open Go.RowKit

def RetOwn (w : World) (base : Nat) (l : List UInt8) (e : Ending) (w' : World) : Prop := ∃ v', e = .returned v' ∧ Own w' base v' l ∧ Keeps base w w'
theorem reads_blk {w : World} {g n : Nat} {t : TypeId} {cs : Array Value} {xs : List Value} (h : Blk w g t cs) (hx : xs = cs.toList) (hn : xs.length = n) : Reads w w.heap.size 1 (some ⟨g, 0, none⟩) n xs := by
  refine ⟨by omega, fun _ => ⟨⟨g, 0, none⟩, rfl, h.lt, fun k u hu => ?_⟩⟩
  rw [add_head, h.cell k, ← Array.getElem?_toList, ← hx]
  exact hu
set_option maxHeartbeats 1000000 in
theorem putText_any (sv : Value) (l : List UInt8) (s : ByteArray) (w : World) (base : Nat) (hown : Own w base sv l) (hb : base ≤ w.heap.size) (hs : s.size ≤ 24) (hlen : l.length ≤ 100000000) :
    Calls Try.prog 38 #[sv, .string s] w (RetOwn w base (l ++ txtB s.data.toList)) := by
  have h0 : IntKind.u8.wrap (s.size : Int) = ((UInt8.ofNat s.size).toNat : Int) := by rw [u8_nat, IntKind.wrap_u8]
  have h0' : (s.size : Int) = ((UInt8.ofNat s.size).toNat : Int) := by rw [u8_nat]; omega
  have HL := Lib.hid (And.intro hlen (And.intro hs (And.intro h0 h0')))
  clear hlen h0 h0'
  have hsI : (s.size : Int) ≤ 24 := by omega
  have e1 : l ++ txtB s.data.toList = l ++ [UInt8.ofNat s.size] ++ s.data.toList := by unfold txtB; first | (simp; done) | (simp; rfl)
  have HE := Lib.hid e1
  clear e1
  go_enter Try.func38, Try.ntmps38
  go_wp2_with (first
    | (at_builtin; refine wpList_pushB rfl _ _ rfl base sv l (UInt8.ofNat s.size) _ rfl hown _ rfl rfl (by first | exact HL.out.2.2.1 | exact HL.out.2.2.2) (by have := HL.out.1; omega) hb ?_; intro v2 w2 own2 kp2)
    | (at_builtin; refine wpList_appS rfl _ _ rfl base v2 _ s rfl own2 rfl (by have := HL.out.1; have := HL.out.2.1; simp; omega) (Nat.le_trans hb kp2.size) ?_; intro v3 w3 own3 kp3))
  go_ret
  exact ⟨_, rfl, by rw [HE.out]; exact own3, kp2.trans kp3⟩
theorem four_flat : ∀ q : List Int, (q.flatMap fourB).length ≤ 4 * q.length
  | [] => by simp
  | a :: r => by
    have h1 : (fourB a).length = 4 := by unfold fourB; exact be_len 4 _
    have h2 := four_flat r
    rw [List.flatMap_cons, List.length_append, List.length_cons]
    omega
theorem bL_be4 {U : Nat} (h : U < 2147483648) : [Value.int .u8 ((U : Int) / 16777216), .int .u8 ((U : Int) / 65536 % 256), .int .u8 ((U : Int) / 256 % 256), .int .u8 ((U : Int) % 256)] = bL (be 4 U) := by
  have b0 : (U : Int) / 16777216 = ((UInt8.ofNat (U / 256 ^ 3)).toNat : Int) := by rw [u8_nat]; omega
  have b1 : (U : Int) / 65536 % 256 = ((UInt8.ofNat (U / 256 ^ 2)).toNat : Int) := by rw [u8_nat]; omega
  have b2 : (U : Int) / 256 % 256 = ((UInt8.ofNat (U / 256 ^ 1)).toNat : Int) := by rw [u8_nat]; omega
  have b3 : (U : Int) % 256 = ((UInt8.ofNat (U / 256 ^ 0)).toNat : Int) := by rw [u8_nat]; simp
  rw [b0, b1, b2, b3]
  rw [be_cons, be_cons, be_cons, be_cons]
  rfl
theorem shr_any {U d : Nat} : (U : Int) / 2 ^ (8 * d) % 256 = ((UInt8.ofNat (U / 256 ^ d)).toNat : Int) := by
  have h2 : (2 : Int) ^ (8 * d) = ((256 ^ d : Nat) : Int) := by
    rw [Int.pow_mul, Int.natCast_pow]
    rfl
  rw [h2, u8_nat, Int.natCast_ediv]
set_option maxRecDepth 100000 in
set_option maxHeartbeats 2000000 in
theorem putNumbers_any (sv : Value) (l : List UInt8) (A : Option Addr) (n c : Nat) (ns : List Int) (w : World) (base : Nat) (hown : Own w base sv l) (hb : base ≤ w.heap.size) (hlen : l.length ≤ 100000000) (hn : n ≤ 10)
    (hr : ∀ W, Keeps base w W → ∃ B, Reads W B 1 A n (vI64 ns)) (h31 : ∀ z ∈ ns, num31 z = true) :
    Calls Try.prog 39 #[sv, .slice A n c] w (RetOwn w base (l ++ ns.flatMap fourB)) := by
  have hln : ns.length = n := by obtain ⟨B, h⟩ := hr w (Keeps.refl _ _); have := h.1; rw [vI64_len] at this; omega
  have nI : (n : Int) ≤ 10 := by omega
  have HC := Lib.hid (And.intro hr (And.intro h31 (And.intro hln hlen)))
  clear hr h31 hln hlen
  go_enter Try.func39, Try.ntmps39
  go_wp2
  go_loopw [0, 9] (fun bv iv wr => ∃ j : Nat, j ≤ n ∧ iv = .int .i64 j ∧ Own wr base bv (l ++ (ns.take j).flatMap fourB) ∧ Keeps base w wr) (fun _ iv _ => n - (intOf iv).toNat)
  case atStart => exact ⟨0, by omega, rfl, by rw [List.take_zero, List.flatMap_nil, List.append_nil]; exact hown, Keeps.refl _ _⟩
  case round =>
    obtain ⟨j, hj, rfl, hown2, hkp⟩ := hrel
    have q0 : (0 : Int) ≤ (j : Int) := by omega
    have hbr := Nat.le_trans hb hkp.size
    by_cases hlt : j < n
    · have q1 : (j : Int) < (n : Int) := by omega
      obtain ⟨B, hrd⟩ := HC.out.1 _ hkp
      obtain ⟨ad, z, hA, hab, hz, f0⟩ : ∃ ad x, A = some ad ∧ ad.block < B ∧ ns[j]? = some x ∧ wr.cell? (ad.add j) = some (.int .i64 x) := by
        obtain ⟨ad, u, hA, hb, hu, hc⟩ := hrd.at_ hlt
        obtain ⟨x, hx, rfl⟩ := vI64_at hu
        exact ⟨ad, x, hA, hb, hx, hc⟩
      subst hA
      have hz31 := num31_iff.1 (HC.out.2.1 z (List.mem_of_getElem? hz))
      obtain ⟨U, rfl⟩ : ∃ U : Nat, z = U := ⟨z.toNat, by omega⟩
      have u0 : (0 : Int) ≤ (U : Int) := by omega
      have u1 : (U : Int) < 2147483648 := by omega
      have hft : (ns.take (j + 1)).flatMap fourB = (ns.take j).flatMap fourB ++ be 4 U := by
        rw [List.take_add_one, hz]
        simp [fourB]
      have hl2 : (l ++ (ns.take j).flatMap fourB).length ≤ 100000200 := by
        have h1 : ((ns.take j).flatMap fourB).length ≤ 4 * (ns.take j).length := by
          exact four_flat _
        have h2 : (ns.take j).length ≤ 10 := by rw [List.length_take]; omega
        have := HC.out.2.2.2
        rw [List.length_append]; omega
      have HN := Lib.hid (And.intro hft hl2)
      clear hz hz31 hft hl2 hrd hab
      have hU := u1
      go_wp2_with (at_builtin; refine wpList_appR (w := wr.alloc _) rfl _ _ rfl base _ (l ++ (ns.take j).flatMap fourB) (be 4 U) (some ⟨wr.heap.size, 0, none⟩) 4 4 (wr.heap.size + 1) (by first | rfl | (simp; done)) (hown2.alloc _) (by first | rfl | (simp; done)) (by rw [← bL_be4 (by omega)]; exact reads_new wr _ _ rfl rfl) (by have := HN.out.2; rw [be_len]; omega) (by simp; omega) ?_; intro v2 w2 own2 kp2)
      go_roundw
      case rel => exact ⟨j + 1, by omega, by go_num, by rw [HN.out.1, ← List.append_assoc]; exact own2, hkp.trans ((Keeps.alloc_ hbr _).trans kp2)⟩
      case measure => simp [intOf]; omega
    · obtain rfl : j = n := by omega
      have hT : ns.take j = ns := List.take_of_length_le (by have := HC.out.2.2.1; omega)
      rw [hT] at hown2
      clear hT
      go_wp2
      go_ret
      exact ⟨_, rfl, hown2, hkp⟩
end Go.Proofs.Ytflolnilagogpaa
