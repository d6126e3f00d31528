/-
  Leaf pages: Same of two that read the same; the chapter's example.
-/
import Derived.Test.YtgdipljaddodhaaYv
import Derived.KernelRfl
set_option linter.unusedSimpArgs false
namespace Go.Proofs.Ytgdipljaddodhaa
open Go.RowKit

set_option maxRecDepth 100000 in
set_option maxHeartbeats 2000000 in
theorem sameE_any (A : Option Addr) (n c : Nat) (A2 : Option Addr) (c2 : Nat) (l : List En) (w : World) (hr : Reads w w.heap.size 3 A n (vE l)) (hr2 : Reads w w.heap.size 3 A2 n (vE l)) (hn : n ≤ 1000000) :
    Calls Try.prog 20 #[.slice A n c, .slice A2 n c2] w (RetB w (.bool true)) := by
  have hnI : (n : Int) ≤ 1000000 := by omega
  go_enter Try.func20, Try.ntmps20
  go_wp2
  go_loopw [13] (fun iv wr => ∃ j : Nat, j ≤ n ∧ iv = .int .i64 j ∧ Below w.heap.size w wr) (fun iv _ => n - (intOf iv).toNat)
  case atStart => exact ⟨0, by omega, rfl, Below.refl _ _⟩
  case round =>
    obtain ⟨j, hj, rfl, hb⟩ := hrel
    have q0 : (0 : Int) ≤ (j : Int) := by omega
    by_cases hlt : j < n
    · have q1 : (j : Int) < (n : Int) := by omega
      obtain ⟨ad, v, rfl, hab, hv, d0, d1, d2⟩ := (hr.below hb).ent hlt
      obtain ⟨ad2, v2, rfl, hab2, hv2, d20, d21, d22⟩ := (hr2.below hb).ent hlt
      rw [hv] at hv2
      injection hv2 with hv2
      subst hv2
      clear hv
      obtain ⟨vk, vi, vs⟩ := v
      simp only at d0 d1 d2 d20 d21 d22
      go_wp2
      go_quiet (fail)
      go_wp2
      go_roundw
      case rel => exact ⟨j + 1, by omega, by go_num, bdr hb _⟩
      case measure => simp [intOf]; omega
    · go_wp2
      go_ret
      exact ⟨rfl, hb⟩

def eF : En := ⟨⟨#[97, 98, 99]⟩, 0, 0⟩
theorem eF_ok : ∀ e ∈ [eF], e.ok := by
  intro e he
  rw [List.mem_singleton] at he; subst he
  exact ⟨by decide, by decide, by decide⟩
def pgF : List UInt8 := leafL 7 [eF]
theorem pgF_ok : hdOk pgF = true ∧ hdK pgF = 2 ∧ hdC pgF = 1 ∧ hdN pgF = 7 ∧ pgF.length = 512 := by decide +kernel
theorem pgF_rd : rdMany 1 (pgF.drop 8) = [eF] := by kernel_rfl
theorem pgF_sh : rdSh 1 (pgF.drop 8) = false ∧ allZ (rdRest 1 (pgF.drop 8)) = true ∧ (rdRest 1 (pgF.drop 8)).length ≤ 1000000 := by decide +kernel

set_option maxHeartbeats 1000000 in
theorem fixed10_any (w : World) : Calls Try.prog 9 #[] w (RetB w (.bool true)) := by
  have P1 : Hid (∀ W : World, Calls Try.prog 12 #[.int .u32 7, .slice (some ⟨W.heap.size, 0, none⟩) 1 1] (W.alloc (.cells #[.string ⟨#[97, 98, 99]⟩, .int .u32 0, .int .u16 0] 27)) (RetLf (W.alloc (.cells #[.string ⟨#[97, 98, 99]⟩, .int .u32 0, .int .u16 0] 27)) pgF)) := Lib.hid fun W =>
    putLeaf_ok 7 (by decide) _ 1 1 [eF] _ ((reads_new W #[.string ⟨#[97, 98, 99]⟩, .int .u32 0, .int .u16 0] _ rfl rfl).more (by simp)) eF_ok rfl (by decide)
  obtain ⟨g1, g2, g3, g4, g5⟩ := pgF_ok
  obtain ⟨s1, s2, s3⟩ := pgF_sh
  have P2 : Hid (∀ (A : Option Addr) (c : Nat) (W : World), Reads W W.heap.size 1 A 512 (bL pgF) → 512 ≤ c → Calls Try.prog 18 #[.slice A 512 c] W (RetGl W 7 [eF])) := Lib.hid fun A c W hr hc => by
    have := getLeaf_ok A 512 c W.heap.size 1 pgF [eF] _ W hr (Nat.le_refl _) (by omega) hc g1 g2 g3 (by omega) pgF_rd rfl s1 s2 s3 rfl
    rwa [g4] at this
  have P3 : Hid (∀ (g : Nat) (W : World), Reads W W.heap.size 3 (some ⟨g, 0, none⟩) 1 (vE [eF]) → Calls Try.prog 16 #[.slice (some ⟨g, 0, none⟩) 1 1] W (RetB W (.int .i64 19))) := Lib.hid fun g W hr => leafSize_any _ 1 1 [eF] W hr (by decide)
  have P4 : Hid (∀ (g c2 : Nat) (A2 : Option Addr) (W : World), Reads W W.heap.size 3 (some ⟨g, 0, none⟩) 1 (vE [eF]) → Reads W W.heap.size 3 A2 1 (vE [eF]) → Calls Try.prog 20 #[.slice (some ⟨g, 0, none⟩) 1 1, .slice A2 1 c2] W (RetB W (.bool true))) := Lib.hid fun g c2 A2 W h1 h2 => sameE_any _ 1 1 A2 c2 [eF] W h1 h2 (by omega)
  have H5 := Lib.hid g5
  clear g1 g2 g3 g4 g5 s1 s2 s3
  have hr0 : Hid (Reads (w.alloc (.cells #[.string ⟨#[97, 98, 99]⟩, .int .u32 0, .int .u16 0] 27)) (w.alloc (.cells #[.string ⟨#[97, 98, 99]⟩, .int .u32 0, .int .u16 0] 27)).heap.size 3 (some ⟨w.heap.size, 0, none⟩) 1 (vE [eF])) := Lib.hid ((reads_new w #[.string ⟨#[97, 98, 99]⟩, .int .u32 0, .int .u16 0] _ rfl rfl).more (by simp))
  go_enter Try.func9, Try.ntmps9
  go_wp2_with fail
  refine (P1.out _).mono ?_
  rintro e w1 ⟨v, rfl, own1, hb1⟩
  obtain ⟨A, c, rfl, hc⟩ := own1.form
  have hrr := own1.reads.1
  rw [H5.out] at hrr hc ⊢
  have hr1 := (hr0.out.below hb1).more hb1.size
  clear own1
  go_wp2_with fail
  refine (P2.out A c _ hrr hc).mono ?_
  rintro e w2 ⟨A2, c2, rfl, hc2, hr2, hb2⟩
  have hr3 := (hr1.below hb2).more hb2.size
  go_wp2_with fail
  refine (P3.out _ _ hr3).mono ?_
  rintro e w3 ⟨rfl, hb3⟩
  have hr4 := (hr3.below hb3).more hb3.size
  have hr5 := (hr2.below hb3).more hb3.size
  go_wp2_with fail
  refine (P4.out _ _ _ _ hr4 hr5).mono ?_
  rintro e w4 ⟨rfl, hb4⟩
  go_wp2
  go_ret
  exact ⟨rfl, by (with_reducible repeat (first | exact Below.refl _ _ | exact hb4 | exact hb3 | exact hb2 | exact hb1 | refine bto0 ?_ hb4 | refine bto0 ?_ hb3 | refine bto0 ?_ hb2 | refine bto0 ?_ hb1 | refine bdr ?_ _ | refine Below.drew ?_ | refine ball ?_ _))⟩
end Go.Proofs.Ytgdipljaddodhaa
