/-
  Terms: contract of Ready.
-/
import Derived.Test.YtbmfojeklhbocaaTc
import Derived.Test.YtbmfojeklhbocaaWx
import Derived.BigGuardPart
set_option linter.unusedSimpArgs false
set_option linter.unusedVariables false
namespace Go.Proofs.Ytbmfojeklhbocaa
open Go.RowKit

/-- Bits of one that aren't in another. -/
def anN (a b : Nat) : Nat := a &&& (4294967295 - b)
theorem anN_lt (a b : Nat) (ha : a < 4294967296) : anN a b < 4294967296 := Nat.lt_of_le_of_lt Nat.and_le_left ha
theorem andnot_u32 (a b : Nat) (ha : a < 4294967296) (hb : b < 4294967296) : bits .andNot .u32 (a : Int) (b : Int) = (anN a b : Int) := by
  show IntKind.u32.wrap ((BitVec.ofInt 32 (a : Int) &&& ~~~ BitVec.ofInt 32 (b : Int)).toNat : Int) = _
  have e1 : (BitVec.ofInt 32 (a : Int)).toNat = a := by rw [BitVec.toNat_ofInt]; omega
  have e2 : (BitVec.ofInt 32 (b : Int)).toNat = b := by rw [BitVec.toNat_ofInt]; omega
  rw [BitVec.toNat_and, BitVec.toNat_not, e1, e2]
  have h := anN_lt a b ha
  have e3 : 2 ^ 32 - 1 - b = 4294967295 - b := by omega
  rw [e3, IntKind.wrap_u32]
  show ((anN a b : Nat) : Int) % 4294967296 = _
  omega
theorem nz_int (X : Nat) : ((X : Int) != 0) = (X != 0) := by
  rcases Nat.eq_zero_or_pos X with h | h
  · subst h; rfl
  · have h1 : ((X : Int) != 0) = true := by simp; omega
    have h2 : (X != 0) = true := by simp; omega
    rw [h1, h2]
theorem ez_int (X : Nat) : ((X : Int) == 0) = (X == 0) := by
  rcases Nat.eq_zero_or_pos X with h | h
  · subst h; rfl
  · have h1 : ((X : Int) == 0) = false := by simp; omega
    have h2 : (X == 0) = false := by simp; omega
    rw [h1, h2]
/-- Is a condition of this set ready now, and wasn't ahead? -/
def rdyB (s had now : Nat) : Bool := anN s now == 0 && (anN s had != 0 || (s == 0 && had == 0))
def qB (p : Tm → Bool) (l : List Tm) (i : Nat) : Bool := (l[i]?.map p).getD false
def idxK (p : Tm → Bool) (l : List Tm) (k : Nat) : List Nat := (List.range k).filter (qB p l)
theorem idxK_succ (p : Tm → Bool) (l : List Tm) (k : Nat) (v : Tm) (h : l[k]? = some v) : idxK p l (k + 1) = idxK p l k ++ (if p v then [k] else []) := by
  unfold idxK
  rw [List.range_succ, List.filter_append]
  congr 1
  have : qB p l k = p v := by unfold qB; rw [h]; rfl
  rw [List.filter_cons, List.filter_nil, this]
theorem idxK_len (p : Tm → Bool) (l : List Tm) (k : Nat) : (idxK p l k).length ≤ k := by
  unfold idxK
  have := List.length_filter_le (qB p l) (List.range k)
  simpa using this
def vI (l : List Nat) : List Value := l.map fun x : Nat => Value.int .i64 (x : Int)
theorem vI_len (l : List Nat) : (vI l).length = l.length := by simp [vI]
theorem vI_app (a b : List Nat) : vI (a ++ b) = vI a ++ vI b := by simp [vI]
theorem vI_one (l : List Nat) : ∀ u ∈ vI l, u.oneCell' = true := by
  intro u hu
  obtain ⟨x, _, rfl⟩ := List.mem_map.1 hu
  rfl
/-- Numbers of conditions in a row of the call's own. -/
def RetIdx (w : World) (l : List Nat) (e : Ending) (w' : World) : Prop := ∃ A c, e = .returned (.slice A l.length c) ∧ l.length ≤ c ∧ w'.ownsRow w.heap.size 3 1 (.slice A l.length c) l.length (vI l) ∧ Below w.heap.size w w'
theorem Try.infoI : (Try.prog.info? 3).map (fun i => (i.zero, i.size, i.bytes)) = some (some (.int .i64 0), 1, 8) := by kernel_rfl

set_option maxRecDepth 100000 in
set_option maxHeartbeats 8000000 in
theorem ready_any (f : Nat) (A : Option Addr) (n c : Nat) (l : List Tm) (had now : Nat) (hh : had < 4294967296) (hn2 : now < 4294967296) (w : World) (hr : Reads w w.heap.size 11 A n (vT l)) (hin : ∀ t ∈ l, TmIn w w.heap.size t) (hsh : ∀ t ∈ l, shT f t) (hn : n ≤ 1000) :
    Calls Try.prog 23 #[.slice A n c, .int .u32 had, .int .u32 now] w (RetIdx w (idxK (fun t => rdyB (usT f t) had now) l n)) := by
  have hl : l.length = n := by have := hr.1; rw [vT_len] at this; omega
  have Hl := Lib.hid hl; clear hl
  have hnI : (n : Int) ≤ 1000 := by omega
  have hp : ∀ v : Tm, (fun t => rdyB (usT f t) had now) v = rdyB (usT f v) had now := fun _ => rfl
  obtain ⟨p, hpe⟩ : ∃ p : Tm → Bool, (fun t => rdyB (usT f t) had now) = p := ⟨_, rfl⟩
  rw [hpe] at hp ⊢
  have Hp := Lib.hid hp
  clear hp hpe
  obtain ⟨i0, hi0, hz0, hs0, hy0⟩ := int_info8 Try.infoI
  have US := Lib.hid fun (t : Tm) (W : World) (ht : t ∈ l) (hb : Below w.heap.size w W) => uses_any f t W (((hin t ht).under hb).more hb.size) (hsh t ht)
  have HAN := Lib.hid fun (s : Nat) (hs : s < 4294967296) => And.intro (andnot_u32 s had hs hh) (andnot_u32 s now hs hn2)
  clear hin hsh
  go_enter Try.func23, Try.ntmps23
  go_wp2_with fail
  go_loopw [7, 14] (fun v i wr => ∃ k : Nat, k ≤ n ∧ i = .int .i64 k ∧ wr.ownsRow w.heap.size 3 1 v (idxK p l k).length (vI (idxK p l k)) ∧ Below w.heap.size w wr) (fun _ i _ => n - (intOf i).toNat)
  case atStart => exact ⟨0, Nat.zero_le _, rfl, ⟨rfl, .inl ⟨rfl, rfl⟩⟩, Below.refl _ _⟩
  case round =>
    obtain ⟨k, hk, rfl, hown, hb⟩ := hrel
    have q0 : (0 : Int) ≤ (k : Int) := by omega
    by_cases hlt : k < n
    · have q1 : (k : Int) < (n : Int) := by omega
      obtain ⟨ad, v, rfl, hab, hv, hat⟩ := (hr.below hb).tm hlt
      have HC := Lib.hid fun W hbW => US.out v W (List.mem_of_getElem? hv) hbW
      have hstep := idxK_succ p l k v hv
      rw [Hp.out] at hstep
      have hlen := idxK_len p l k
      have hsl := usT_lt f v
      obtain ⟨S, hS⟩ : ∃ S, usT f v = S := ⟨_, rfl⟩
      rw [hS] at HC hstep hsl
      obtain ⟨a1, a2⟩ := HAN.out S hsl
      unfold rdyB at hstep
      obtain ⟨X, hX⟩ : ∃ X, anN S had = X := ⟨_, rfl⟩
      obtain ⟨Y, hY⟩ : ∃ Y, anN S now = Y := ⟨_, rfl⟩
      rw [hX] at a1 hstep
      rw [hY] at a2 hstep
      obtain ⟨I, hI⟩ : ∃ I, idxK p l k = I := ⟨_, rfl⟩
      rw [hI] at hown hlen hstep
      have HI := Lib.hid hI
      have hsz := hb.size
      have hown1 := hown.alloc (.cells (Tm.arr v) 56)
      have hb1 : Below w.heap.size w (wr.alloc (.cells (Tm.arr v) 56)) := ball hb _
      have hsz1 := hb1.size
      have H1 := Lib.hid (And.intro hown1 (And.intro hb1 hsz1))
      clear hv hS hX hY hI hown hown1 hb1
      obtain ⟨⟨k1, op1, no1, ⟨vk1, vi1, vs1⟩, of1, nm1, tb1, cl1⟩, A1, n1, c1, l1⟩ := v
      obtain ⟨y0, y1, y2, y3, y4, y5, y6, y7, y8, y9, y10⟩ := hat
      simp only [Tm.agg, TmH.agg, Tm.h, Tm.A, Tm.n, Tm.c] at HC y0 y1 y2 y3 y4 y5 y6 y7 y8 y9 y10
      unfold Tm.arr Tm.cells at H1
      obtain ⟨r, hre⟩ : ∃ r, (Y == 0 && (X != 0 || (S == 0 && had == 0))) = r := ⟨_, rfl⟩
      rw [hre] at hstep
      have Hstep := Lib.hid hstep
      clear hstep
      have b1 : ((X : Int) != 0) = (X != 0) := nz_int X
      have b2 : ((S : Int) == 0) = (S == 0) := ez_int S
      have b3 : ((had : Int) == 0) = (had == 0) := ez_int had
      have b4 : ((Y : Int) == 0) = (Y == 0) := ez_int Y
      generalize (X != 0) = B1 at *
      generalize (S == 0) = B2 at *
      generalize (had == 0) = B3 at *
      generalize (Y == 0) = B4 at *
      cases B1 <;> cases B2 <;> cases B3 <;> cases B4
      all_goals
        simp only [Bool.and_true, Bool.true_and, Bool.and_false, Bool.false_and, Bool.or_false, Bool.false_or, Bool.or_true, Bool.true_or] at hre
        subst hre
        have hst := Hstep.out
        simp only [if_true, if_false, Bool.false_eq_true, if_neg, List.append_nil] at hst
        have Hst := Lib.hid hst
        clear hst
        go_wp2_with fail
        refine (HC.out _ H1.out.2.1).mono ?_
        rintro e w1 ⟨rfl, hb1⟩
        have hown2 := own_below H1.out.1 hb1
        have hb2 := bto0 H1.out.2.1 hb1
        go_wp2_with (at_builtin; refine wpList_pushX (news := [.int .i64 (k : Int)]) rfl _ _ 39 rfl w.heap.size 3 i0 _ 1 8 Try.underlying39 hi0 hz0 hs0 hy0 rfl (by decide) u7 I.length _ rfl hown2 rfl _ rfl rfl rfl (by intro u hu; rw [List.mem_singleton] at hu; subst hu; rfl) (by omega) (by omega) hb2.size ?_; intro v4 w4 hown4 hg4)
        go_roundw
        case rel =>
          first
            | exact ⟨k + 1, by omega, by go_num, by rw [Hst.out]; exact hown2, hb2⟩
            | exact ⟨k + 1, by omega, by go_num, by rw [Hst.out, vI_app, List.length_append]; exact hown4, belowX_grown hown2 (Nat.le_refl _) hb2.size hg4 hb2⟩
        case measure => simp [intOf]; omega
    · obtain rfl : k = n := by omega
      obtain ⟨A5, c5, rfl, hc5⟩ := own_form hown
      go_wp2
      go_ret
      exact ⟨A5, c5, rfl, hc5, hown, hb⟩
end Go.Proofs.Ytbmfojeklhbocaa
