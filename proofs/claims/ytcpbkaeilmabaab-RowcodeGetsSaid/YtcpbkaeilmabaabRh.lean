/-
  Bytes as values: contracts of the program's get.
-/
import Derived.Test.YtcpbkaeilmabaabRg
import Derived.StillTailTactics
import Derived.Laws.BitsAllLaws
namespace Go.Proofs.Ytcpbkaeilmabaab
open Go.RowKit

def RetGet (w : World) (B : Nat) (d : Dec) (e : Ending) (w' : World) : Prop := Below w.heap.size w w' ∧ match d with
  | .bad k => e = .returned (.tuple #[.agg #[.int .u8 0, .int .i64 0, .string ⟨#[]⟩], .slice none 0 0, .int .i64 k])
  | .ok v r => ∃ A n c, e = .returned (.tuple #[v.agg, .slice A n c, .int .i64 0]) ∧ n ≤ c ∧ Reads w' B 1 A n (bL r)
theorem RetGet.bad_ {w w' : World} {B : Nat} {k : Int} {e : Ending} (h : Below w.heap.size w w') (he : e = .returned (.tuple #[.agg #[.int .u8 0, .int .i64 0, .string ⟨#[]⟩], .slice none 0 0, .int .i64 k])) : RetGet w B (.bad k) e w' := ⟨h, he⟩
theorem RetGet.ok_ {w w' : World} {B : Nat} {v : Vl} {r : List UInt8} {A : Option Addr} {n c : Nat} {e : Ending} (h : Below w.heap.size w w') (hr : Reads w' B 1 A n (bL r)) (hc : n ≤ c) (he : e = .returned (.tuple #[v.agg, .slice A n c, .int .i64 0])) : RetGet w B (.ok v r) e w' := ⟨h, A, n, c, he, hc, hr⟩

set_option maxHeartbeats 1000000 in
theorem getBool_any (A : Option Addr) (n c B : Nat) (l : List UInt8) (w : World) (hr : Reads w B 1 A n (bL l)) (hB : B ≤ w.heap.size) (hc : n ≤ c) (hn : n ≤ 10000) :
    Calls Try.prog 56 #[.slice A n c] w (RetGet w B (decB l)) := by
  have hl := hr.bytes_len
  rcases l with _ | ⟨x, s⟩
  · simp only [List.length_nil] at hl
    subst hl
    go_enter Try.func56, Try.ntmps56
    go_wp2
    exact bodyPost_ret (v := .tuple #[.agg #[.int .u8 0, .int .i64 0, .string ⟨#[]⟩], .slice none 0 0, .int .i64 3]) (by simp [results, Try.results56, go_sem]) rfl (RetGet.bad_ (ball (Below.refl _ _) _) rfl)
  · simp only [List.length_cons] at hl
    obtain ⟨ad, b, rfl, hb, hx, c0⟩ := hr.byte (k := 0) (by omega)
    simp only [List.getElem?_cons_zero, Option.some.injEq] at hx
    subst hx
    have g1 : (0 : Int) < (n : Int) := by omega
    have g2 : 0 < n := by omega
    have e0 : (n == 0) = false := by simp; omega
    have e0' : ((n : Int) == 0) = false := by simp; omega
    obtain ⟨A', sl, hcut⟩ := cutb_lo (A := some ad) (n := n) (c := c) .i64 1 1 rfl (by omega) hc
    have Hcut := Lib.hid hcut; clear hcut
    have c1 : w.cell? ad = some (.int .u8 (x.toNat : Int)) := by simpa [Addr.add] using c0
    have xb := x.toNat_lt
    have d0 : ∀ o, (w.alloc o).cell? ad = some (.int .u8 (x.toNat : Int)) := fun o => (World.cell?_alloc_lt w o ad (by omega)).trans c1
    show Calls _ _ _ _ (RetGet w B (if 1 < x.toNat then .bad 2 else .ok ⟨2, x.toNat, ⟨#[]⟩⟩ s))
    by_cases h1 : 1 < x.toNat
    · rw [if_pos h1]
      have h1' : (1 : Int) < (x.toNat : Int) := by omega
      clear hr hl
      go_enter Try.func56, Try.ntmps56
      go_wp2
      exact bodyPost_ret (v := .tuple #[.agg #[.int .u8 0, .int .i64 0, .string ⟨#[]⟩], .slice none 0 0, .int .i64 2]) (by simp [results, Try.results56, go_sem]) rfl (RetGet.bad_ (ball (Below.refl _ _) _) rfl)
    · rw [if_neg h1]
      have h1' : (x.toNat : Int) ≤ 1 := by omega
      have Hr := Lib.hid hr
      clear hr hl h1
      go_enter Try.func56, Try.ntmps56
      go_wp2
      go_region
      all_goals go_wp2
      all_goals exact bodyPost_ret (v := .tuple #[.agg #[.int .u8 2, .int .i64 (x.toNat : Int), .string ⟨#[]⟩], .slice A' (n - 1) (c - 1), .int .i64 0]) (by simp [results, Try.results56, go_sem]) rfl (RetGet.ok_ (ball (Below.refl _ _) _).drew (Hcut.out _ _ _ (Hr.out.alloc hB _).drew) (by omega) rfl)

theorem beVal_take {l : List UInt8} {j : Nat} {b : UInt8} (h : l[j]? = some b) : beVal (l.take (j + 1)) = 256 * beVal (l.take j) + b.toNat := by
  rw [List.take_add_one, h]; exact beVal_snoc _ _
theorem or_byte (U : Nat) (b : UInt8) (hU : U < 72057594037927936) : bits .or .u64 (IntKind.u64.wrap ((U : Int) * 256)) (b.toNat : Int) = ((256 * U + b.toNat : Nat) : Int) := by
  have hb := b.toNat_lt
  have h1 : IntKind.u64.wrap ((U : Int) * 256) = ((256 * U : Nat) : Int) := by rw [IntKind.wrap_u64]; omega
  rw [h1]
  show IntKind.u64.wrap ((BitVec.ofInt 64 ((256 * U : Nat) : Int) ||| BitVec.ofInt 64 (b.toNat : Int)).toNat : Int) = _
  have e1 : (BitVec.ofInt 64 ((256 * U : Nat) : Int)).toNat = 256 * U := by rw [BitVec.toNat_ofInt]; omega
  have e2 : (BitVec.ofInt 64 (b.toNat : Int)).toNat = b.toNat := by rw [BitVec.toNat_ofInt]; omega
  have e3 : 256 * U ||| b.toNat = 256 * U + b.toNat := by
    rw [show (256 : Nat) = 2 ^ 8 from rfl]
    exact (Nat.two_pow_add_eq_or_of_lt (i := 8) (b := b.toNat) (by omega) U).symm
  rw [BitVec.toNat_or, e1, e2, e3, IntKind.wrap_u64]
  omega
set_option maxHeartbeats 1000000 in
theorem getInt_any (A : Option Addr) (n c B : Nat) (l : List UInt8) (w : World) (hr : Reads w B 1 A n (bL l)) (hB : B ≤ w.heap.size) (hc : n ≤ c) (hn : n ≤ 10000) :
    Calls Try.prog 55 #[.slice A n c] w (RetGet w B (decI l)) := by
  have hl := hr.bytes_len
  unfold decI
  rw [hl]
  by_cases h8 : n < 8
  · have g1 : (n : Int) < 8 := by omega
    rw [if_pos h8]
    clear hr hl
    go_enter Try.func55, Try.ntmps55
    go_wp2
    exact bodyPost_ret (v := .tuple #[.agg #[.int .u8 0, .int .i64 0, .string ⟨#[]⟩], .slice none 0 0, .int .i64 3]) (by simp [results, Try.results55, go_sem]) rfl (RetGet.bad_ (ball (Below.refl _ _) _) rfl)
  · have g1 : (8 : Int) ≤ (n : Int) := by omega
    have g2 : 8 ≤ n := by omega
    rw [if_neg h8]
    obtain ⟨A', sl, hcut⟩ := cutb_lo (A := A) (n := n) (c := c) .i64 8 8 rfl (by omega) hc
    have Hcut := Lib.hid hcut; clear hcut
    have Hl := Lib.hid hl; clear hl h8
    go_enter Try.func55, Try.ntmps55
    go_wp2
    go_loop [5, 11] (fun uv iv => ∃ j : Nat, j ≤ 8 ∧ iv = .int .i64 j ∧ uv = .int .u64 ((beVal (l.take j) : Nat) : Int)) (fun _ iv => 8 - (intOf iv).toNat)
    case atStart => exact ⟨0, by omega, rfl, rfl⟩
    case round =>
      obtain ⟨j, hj, rfl, rfl⟩ := hrel
      have q0 : (0 : Int) ≤ (j : Int) := by omega
      by_cases hlt : j < 8
      · have q1 : (j : Int) < 8 := by omega
        have q2 : (j : Int) < (n : Int) := by omega
        obtain ⟨ad, b, rfl, hb, hx, c0⟩ := hr.byte (k := j) (by omega)
        have hbt := Lib.hid (beVal_take hx)
        have hlt2 : beVal (l.take j) < 72057594037927936 := by
          have h1 := beVal_lt (l.take j)
          have h2 : (l.take j).length ≤ 7 := by rw [List.length_take]; omega
          have h3 : 256 ^ (l.take j).length ≤ 256 ^ 7 := Nat.pow_le_pow_right (by omega) h2
          omega
        have hor := or_byte (beVal (l.take j)) b hlt2
        rw [← hbt.out] at hor
        clear hx hlt2
        obtain ⟨U, hU⟩ : ∃ U, beVal (l.take j) = U := ⟨_, rfl⟩
        rw [hU] at hor ⊢
        clear hU
        have HOR := Lib.hid hor; clear hor
        have xb : (b.toNat : Int) ≤ 255 := by have := b.toNat_lt; omega
        have xb0 : (0 : Int) ≤ (b.toNat : Int) := by omega
        have d0 : ∀ o, (w.alloc o).cell? (ad.add j) = some (.int .u8 (b.toNat : Int)) := fun o => (World.cell?_alloc_lt w o _ (by rw [block_of_add]; omega)).trans c0
        go_wp2
        go_round
        case rel => exact ⟨j + 1, by omega, by go_num, val_int HOR.out⟩
        case measure => simp [intOf]; omega
      · obtain rfl : j = 8 := by omega
        have Hr := Lib.hid hr; clear hr
        go_wp2
        go_region
        all_goals go_wp2
        all_goals exact bodyPost_ret (v := .tuple #[.agg #[.int .u8 1,   .int .i64 (IntKind.i64.wrap (beVal (l.take 8) : Int)), .string ⟨#[]⟩], .slice A' (n - 8) (c - 8), .int .i64 0]) (by simp [results, Try.results55, go_sem] <;> (rw [IntKind.wrap_i64, wrap64])) rfl (RetGet.ok_ (ball (Below.refl _ _) _).drew (Hcut.out _ _ _ (Hr.out.alloc hB _).drew) (Nat.sub_le_sub_right hc 8) rfl)

set_option maxHeartbeats 2000000 in
theorem getText_any (A : Option Addr) (n c B : Nat) (l : List UInt8) (w : World) (hr : Reads w B 1 A n (bL l)) (hB : B ≤ w.heap.size) (hc : n ≤ c) (hn : n ≤ 10000) :
    Calls Try.prog 57 #[.slice A n c] w (RetGet w B (decT l)) := by
  have hl := hr.bytes_len
  rcases l with _ | ⟨x, s⟩
  · simp only [List.length_nil] at hl
    subst hl
    go_enter Try.func57, Try.ntmps57
    go_wp2
    exact bodyPost_ret (v := .tuple #[.agg #[.int .u8 0, .int .i64 0, .string ⟨#[]⟩], .slice none 0 0, .int .i64 3]) (by simp [results, Try.results57, go_sem]) rfl (RetGet.bad_ (ball (Below.refl _ _) _) rfl)
  · simp only [List.length_cons] at hl
    obtain ⟨ad, b, rfl, hb, hx, c0⟩ := hr.byte (k := 0) (by omega)
    simp only [List.getElem?_cons_zero, Option.some.injEq] at hx
    subst hx
    have g1 : (0 : Int) < (n : Int) := by omega
    have g2 : 0 < n := by omega
    have e0 : (n == 0) = false := by simp; omega
    have e0' : ((n : Int) == 0) = false := by simp; omega
    obtain ⟨A', sl, hcut⟩ := cutb_lo (A := some ad) (n := n) (c := c) .i64 1 1 rfl (by omega) hc
    have Hcut := Lib.hid hcut; clear hcut
    have c1 : w.cell? ad = some (.int .u8 (x.toNat : Int)) := by simpa [Addr.add] using c0
    have xb := x.toNat_lt
    have xb1 : (x.toNat : Int) ≤ 255 := by omega
    have xb0 : (0 : Int) ≤ (x.toNat : Int) := by omega
    have d0 : ∀ o, (w.alloc o).cell? ad = some (.int .u8 (x.toNat : Int)) := fun o => (World.cell?_alloc_lt w o ad (by omega)).trans c1
    show Calls _ _ _ _ (RetGet w B (if 48 < x.toNat then .bad 4 else if s.length < x.toNat then .bad 3 else .ok ⟨3, 0, str (s.take x.toNat)⟩ (s.drop x.toNat)))
    by_cases h1 : 48 < x.toNat
    · rw [if_pos h1]
      have h1' : (48 : Int) < (x.toNat : Int) := by omega
      clear hr hl
      go_enter Try.func57, Try.ntmps57
      go_wp2
      exact bodyPost_ret (v := .tuple #[.agg #[.int .u8 0, .int .i64 0, .string ⟨#[]⟩], .slice none 0 0, .int .i64 4]) (by simp [results, Try.results57, go_sem]) rfl (RetGet.bad_ (ball (Below.refl _ _) _) rfl)
    · rw [if_neg h1]
      have h1' : (x.toNat : Int) ≤ 48 := by omega
      by_cases h2 : s.length < x.toNat
      · rw [if_pos h2]
        have h2' : ((n - 1 : Nat) : Int) < (x.toNat : Int) := by omega
        have h2'' : n - 1 < x.toNat := by omega
        clear hr hl h1 h2
        go_enter Try.func57, Try.ntmps57
        go_wp2
        exact bodyPost_ret (v := .tuple #[.agg #[.int .u8 0, .int .i64 0, .string ⟨#[]⟩], .slice none 0 0, .int .i64 3]) (by simp [results, Try.results57, go_sem]) rfl (RetGet.bad_ (ball (Below.refl _ _) _) rfl)
      · rw [if_neg h2]
        have h2' : (x.toNat : Int) ≤ ((n - 1 : Nat) : Int) := by omega
        have h2'' : x.toNat ≤ n - 1 := by omega
        obtain ⟨A2, sl2, hcut2⟩ := cutb_hi (A := A') (n := n - 1) (c := c - 1) .i64 x.toNat x.toNat rfl h2'' (by omega)
        obtain ⟨A3, sl3, hcut3⟩ := cutb_lo (A := A') (n := n - 1) (c := c - 1) .i64 x.toNat x.toNat rfl h2'' (by omega)
        have hcv : ∀ o, (convert 25 9 (.slice A2 x.toNat (c - 1))).run Try.prog (w.alloc o).drew = .ok (.string (str (s.take x.toNat))) (w.alloc o).drew := fun o =>
          conv_reads (hcut2 _ _ _ (Hcut.out _ _ _ (hr.alloc hB o).drew)) _ 5 _ Try.underlying25 Try.underlying5 Try.underlying9 _
        have HR : Hid (∀ o, Reads (w.alloc o).drew B 1 A3 (n - 1 - x.toNat) (bL (s.drop x.toNat))) := fun o => hcut3 _ _ _ (Hcut.out _ _ _ (hr.alloc hB o).drew)
        have hcc : n - 1 - x.toNat ≤ c - 1 - x.toNat := by omega
        clear hcut2 hcut3 hr hl h1 h2
        go_enter Try.func57, Try.ntmps57
        go_wp2
        go_region
        all_goals go_wp2
        all_goals exact bodyPost_ret (v := .tuple #[.agg #[.int .u8 3, .int .i64 0, .string (str (s.take x.toNat))], .slice A3 (n - 1 - x.toNat) (c - 1 - x.toNat), .int .i64 0]) (by simp [results, Try.results57, go_sem]) rfl (RetGet.ok_ (ball (Below.refl _ _) _).drew (HR.out _) hcc rfl)
end Go.Proofs.Ytcpbkaeilmabaab
