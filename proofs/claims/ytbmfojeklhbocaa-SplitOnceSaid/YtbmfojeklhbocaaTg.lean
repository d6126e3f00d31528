/-
  Split: contract of the reference's Ready, and that both are the same (plain); the law's great.
-/
import Derived.Test.YtbmfojeklhbocaaTf
set_option linter.unusedSimpArgs false
set_option linter.unusedVariables false
namespace Go.Proofs.Ytbmfojeklhbocaa
open Go.RowKit

/-- Is a condition of these tables ready now, and wasn't ahead? -/
def rrdyB (u : List Nat) (had now : Nat) : Bool := u.all (fun i => now.testBit i) && !(had != 0 && u.all (fun i => had.testBit i))
theorem all_take {p : Nat → Bool} {l : List Nat} {k v : Nat} (h : l[k]? = some v) : (l.take (k + 1)).all p = ((l.take k).all p && p v) := by
  rw [List.take_add_one, h]; simp
theorem Reads.nat {w : World} {B n k : Nat} {A : Option Addr} {l : List Nat} (hr : Reads w B 1 A n (vI l)) (hk : k < n) : ∃ ad x, A = some ad ∧ ad.block < B ∧ l[k]? = some x ∧ w.cell? (ad.add k) = some (.int .i64 (x : Int)) := by
  obtain ⟨ad, u, e, hb, hu, hc⟩ := hr.at_ hk
  unfold vI at hu
  rw [List.getElem?_map] at hu
  obtain ⟨b, h1, rfl⟩ := Option.map_eq_some_iff.1 hu
  exact ⟨ad, b, e, hb, h1, hc⟩
theorem usL_lt (f : Nat) (t : Tm) (T : Nat) : ∀ x ∈ usL f t T, x < T := by
  intro x hx
  unfold usL at hx
  have := (List.mem_filter.1 hx).1
  simpa using this

set_option maxRecDepth 100000 in
set_option maxHeartbeats 8000000 in
theorem rready_any (f d : Nat) (A : Option Addr) (n c : Nat) (l : List Tm) (had now : Nat) (hh : had < 4294967296) (hn2 : now < 4294967296) (hd2 : 2 ≤ d) (w : World) (hr : Reads w w.heap.size 11 A n (vT l)) (hin : ∀ t ∈ l, TmIn w w.heap.size t) (hg : ∀ t ∈ l, grT f (d : Int) t = false) (hn : n ≤ 1000) :
    Calls Try.prog 24 #[.slice A n c, .int .u32 had, .int .u32 now] w (RetIdx w (idxK (fun t => rrdyB (usL f t 32) had now) l n)) := by
  have hl : l.length = n := by have := hr.1; rw [vT_len] at this; omega
  have Hl := Lib.hid hl; clear hl
  have hnI : (n : Int) ≤ 1000 := by omega
  have hp : ∀ v : Tm, (fun t => rrdyB (usL f t 32) had now) v = rrdyB (usL f v 32) had now := fun _ => rfl
  obtain ⟨p, hpe⟩ : ∃ p : Tm → Bool, (fun t => rrdyB (usL f t 32) had now) = p := ⟨_, rfl⟩
  rw [hpe] at hp ⊢
  have Hp := Lib.hid hp
  clear hp hpe
  obtain ⟨i0, hi0, hz0, hs0, hy0⟩ := int_info8 Try.infoI
  have US := Lib.hid fun (t : Tm) (W : World) (ht : t ∈ l) (hb : Below w.heap.size w W) => ruses_any f d t 32 (by omega) hd2 W (((hin t ht).under hb).more hb.size) (hg t ht)
  have AM := Lib.hid fun (l' k : Nat) (W : World) (hk : k ≤ 1000) (hl' : l' < 4294967296) => among_any k l' hk hl' W
  have own0 := own_empty w 3 1 (g := w.heap.size) rfl
  have hb0 : Below w.heap.size w (w.alloc (.cells #[] 3)) := ball (Below.refl _ _) _
  have b3 : ((had : Int) != 0) = (had != 0) := nz_int had
  clear hin hg
  go_enter Try.func24, Try.ntmps24
  go_wp2_with fail
  go_loopw [7, 16] (fun v i wr => ∃ k : Nat, k ≤ n ∧ i = .int .i64 k ∧ wr.ownsRow w.heap.size 3 1 v (idxK p l k).length (vI (idxK p l k)) ∧ Below w.heap.size w wr) (fun _ i _ => n - (intOf i).toNat)
  case atStart => exact ⟨0, Nat.zero_le _, rfl, own0, hb0⟩
  case round =>
    clear own0 hb0
    obtain ⟨k, hk, rfl, hown, hb⟩ := hrel
    have q0 : (0 : Int) ≤ (k : Int) := by omega
    by_cases hlt : k < n
    · have q1 : (k : Int) < (n : Int) := by omega
      obtain ⟨ad, v, rfl, hab, hv, hat⟩ := (hr.below hb).tm hlt
      have HC := US.out v wr (List.mem_of_getElem? hv) hb
      have hstep := idxK_succ p l k v hv
      rw [Hp.out] at hstep
      have hlen := idxK_len p l k
      have hult := usL_lt f v 32
      have hulen := usL_len f v 32
      obtain ⟨U, hU⟩ : ∃ U, usL f v 32 = U := ⟨_, rfl⟩
      rw [hU] at HC hstep hult hulen
      obtain ⟨I, hI⟩ : ∃ I, idxK p l k = I := ⟨_, rfl⟩
      rw [hI] at hown hlen hstep
      have HI := Lib.hid hI
      have Hstep := Lib.hid hstep
      have Hult := Lib.hid hult
      have hulI : (U.length : Int) ≤ 32 := by omega
      have HCC := Lib.hid HC
      clear hv hU hI hstep hult HC
      obtain ⟨⟨k1, op1, no1, ⟨vk1, vi1, vs1⟩, of1, nm1, tb1, cl1⟩, A1, n1, c1, l1⟩ := v
      obtain ⟨y0, y1, y2, y3, y4, y5, y6, y7, y8, y9, y10⟩ := hat
      simp only [Tm.agg, TmH.agg, Tm.h, Tm.A, Tm.n, Tm.c] at HCC y0 y1 y2 y3 y4 y5 y6 y7 y8 y9 y10
      go_wp2_with fail
      refine HCC.out.mono ?_
      rintro e w1 ⟨A1, c1, rfl, hc1, own1, hb1⟩
      have hro := Reads.of_own own1
      have hown2 := own_below hown hb1
      have hbw2 := bto0 hb hb1
      clear own1 hown hb hb1 y0 y1 y2 y3 y4 y5 y6 y7 y8 y9 y10 hulen
      go_wp2_with fail
      obtain ⟨wo, hwo⟩ : ∃ wo : World, w1 = wo := ⟨_, rfl⟩
      rw [hwo] at hro hown2 hbw2 ⊢
      clear hwo
      go_loop [10, 11, 28] (fun a b i => ∃ j : Nat, j ≤ U.length ∧ i = .int .i64 j ∧ a = .bool ((U.take j).all fun i => now.testBit i) ∧ b = .bool (had != 0 && (U.take j).all fun i => had.testBit i)) (fun _ _ i => U.length - (intOf i).toNat)
      case atStart => exact ⟨0, Nat.zero_le _, rfl, rfl, by simp⟩
      case round =>
        obtain ⟨j, hj, rfl, rfl, rfl⟩ := hrel
        have j0 : (0 : Int) ≤ (j : Int) := by omega
        by_cases hjt : j < U.length
        · have j1 : (j : Int) < (U.length : Int) := by omega
          obtain ⟨ad1, x, rfl, hab1, hx, cx⟩ := hro.nat hjt
          have hx32 := Hult.out x (List.mem_of_getElem? hx)
          have s1 := all_take (p := fun i => now.testBit i) hx
          have s2 := all_take (p := fun i => had.testBit i) hx
          have A1 := Lib.hid fun W => AM.out now x W (by omega) hn2
          have A2 := Lib.hid fun W => AM.out had x W (by omega) hh
          have H1 := Lib.hid s1
          have H2 : Hid ((had != 0 && (U.take (j + 1)).all fun i => had.testBit i) = ((had != 0 && (U.take j).all fun i => had.testBit i) && had.testBit x)) := Lib.hid (by rw [s2, ← Bool.and_assoc])
          obtain ⟨a, ha⟩ : ∃ a, (U.take j).all (fun i => now.testBit i) = a := ⟨_, rfl⟩
          obtain ⟨b, hb⟩ : ∃ b, (had != 0 && (U.take j).all fun i => had.testBit i) = b := ⟨_, rfl⟩
          rw [ha] at H1 ⊢
          rw [hb] at H2 ⊢
          obtain ⟨a2, ha2⟩ : ∃ a2, now.testBit x = a2 := ⟨_, rfl⟩
          obtain ⟨b2, hb2⟩ : ∃ b2, had.testBit x = b2 := ⟨_, rfl⟩
          rw [ha2] at A1 H1
          rw [hb2] at A2 H2
          clear s1 s2 hx ha hb ha2 hb2 hx32
          cases a <;> cases b
          all_goals
            go_wp2_with (first
              | (go_at_call 34; (with_reducible refine (A1.out _).mono ?_); rintro e w' ⟨rfl, rfl⟩)
              | (go_at_call 34; (with_reducible refine (A2.out _).mono ?_); rintro e w' ⟨rfl, rfl⟩))
            go_round
            case rel => exact ⟨j + 1, by omega, by go_num, by rw [H1.out]; simp, by rw [H2.out]; simp⟩
            case measure => simp [intOf]; omega
        · have hT : U.take j = U := List.take_of_length_le (by omega)
          rw [hT]
          have hst := Hstep.out
          unfold rrdyB at hst
          obtain ⟨a, ha⟩ : ∃ a, U.all (fun i => now.testBit i) = a := ⟨_, rfl⟩
          obtain ⟨b, hb⟩ : ∃ b, (had != 0 && U.all fun i => had.testBit i) = b := ⟨_, rfl⟩
          rw [ha, hb] at hst
          rw [ha, hb]
          clear hT ha hb Hstep
          cases a <;> cases b
          all_goals
            simp only [Bool.and_true, Bool.true_and, Bool.and_false, Bool.false_and, Bool.not_true, Bool.not_false, if_true, if_false, Bool.false_eq_true, List.append_nil] at hst
            have Hst := Lib.hid hst
            clear hst
            go_wp2_with (at_builtin; refine wpList_pushX (news := [.int .i64 (k : Int)]) rfl _ _ 39 rfl w.heap.size 3 i0 _ 1 8 Try.underlying39 hi0 hz0 hs0 hy0 rfl (by decide) u7 I.length _ rfl hown2 rfl _ rfl rfl rfl (by intro u hu; rw [List.mem_singleton] at hu; subst hu; rfl) (by omega) (by omega) hbw2.size ?_; intro v4 w4 hown4 hg4)
            go_roundw
            case rel =>
              first
                | exact ⟨k + 1, by omega, by go_num, by rw [Hst.out]; exact hown2, hbw2⟩
                | exact ⟨k + 1, by omega, by go_num, by rw [Hst.out, vI_app, List.length_append]; exact hown4, belowX_grown hown2 (Nat.le_refl _) hbw2.size hg4 hbw2⟩
            case measure => simp [intOf]; omega
    · obtain rfl : k = n := by omega
      obtain ⟨A5, c5, rfl, hc5⟩ := own_form hown
      go_wp2
      go_ret
      exact ⟨A5, c5, rfl, hc5, hown, hb⟩
end Go.Proofs.Ytbmfojeklhbocaa
