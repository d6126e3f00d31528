/-
  Bytes as values: contract of the reference's value.
-/
import Derived.Test.YtcpbkaeilmabaabRj
namespace Go.Proofs.Ytcpbkaeilmabaab
open Go.RowKit

def RetValue (w : World) (n : Nat) (d : Dec) (e : Ending) (w' : World) : Prop := Below w.heap.size w w' ∧ match d with
  | .bad k => e = .returned (.tuple #[.agg #[.int .u8 0, .int .i64 0, .string ⟨#[]⟩], .int .i64 0, .int .i64 k])
  | .ok v r => e = .returned (.tuple #[v.agg, .int .i64 ((n - r.length : Nat) : Int), .int .i64 0])
theorem RetValue.bad_ {w w' : World} {n : Nat} {k : Int} {e : Ending} (h : Below w.heap.size w w') (he : e = .returned (.tuple #[.agg #[.int .u8 0, .int .i64 0, .string ⟨#[]⟩], .int .i64 0, .int .i64 k])) : RetValue w n (.bad k) e w' := ⟨h, he⟩
theorem RetValue.ok_ {w w' : World} {n : Nat} {v : Vl} {r : List UInt8} {q : Int} {e : Ending} (h : Below w.heap.size w w') (hq : q = ((n - r.length : Nat) : Int)) (he : e = .returned (.tuple #[v.agg, .int .i64 q, .int .i64 0])) : RetValue w n (.ok v r) e w' := by subst hq; exact ⟨h, he⟩
theorem mul_byte (U : Nat) (b : UInt8) (hU : U < 72057594037927936) : IntKind.u64.wrap (IntKind.u64.wrap (256 * (U : Int)) + (b.toNat : Int)) = ((256 * U + b.toNat : Nat) : Int) := by
  have hb := b.toNat_lt
  rw [IntKind.wrap_u64, IntKind.wrap_u64]
  omega

set_option maxRecDepth 100000 in
set_option maxHeartbeats 4000000 in
theorem rvalue_any (A : Option Addr) (n c p B : Nat) (l : List UInt8) (w : World) (hr : Reads w B 1 A n (bL l)) (hB : B ≤ w.heap.size) (hc : n ≤ c) (hn : n ≤ 10000) (hp : p ≤ 10000) :
    Calls Try.prog 44 #[.slice A n c, .int .i64 p] w (RetValue w n (decV (l.drop p))) := by
  have hl := hr.bytes_len
  have p0 : (0 : Int) ≤ (p : Int) := by omega
  have p1 : (p : Int) ≤ 10000 := by omega
  by_cases hpn : n ≤ p
  · have hd : l.drop p = [] := List.drop_eq_nil_of_le (by omega)
    rw [hd]
    show Calls _ _ _ _ (RetValue w n (.bad 3))
    have p2 : (n : Int) ≤ (p : Int) := by omega
    clear hr hl hd
    go_enter Try.func44, Try.ntmps44
    go_wp2
    exact bodyPost_ret (v := .tuple #[.agg #[.int .u8 0, .int .i64 0, .string ⟨#[]⟩], .int .i64 0, .int .i64 3]) (by simp [results, Try.results44, go_sem]) rfl (RetValue.bad_ (by have hz : Below w.heap.size w w := Below.refl _ _; repeat (first | exact hz | refine Below.setCell ?_ (show w.heap.size ≤ w.heap.size from Nat.le_refl _) _ | refine Below.setCell ?_ (show w.heap.size ≤ w.heap.size + 1 from Nat.le_succ _) _ | refine bdr ?_ _ | refine ball ?_ _)) rfl)
  · have p2 : (p : Int) < (n : Int) := by omega
    have p3 : p < n := by omega
    have p4 : (p : Int) + 1 ≤ (n : Int) := by omega
    obtain ⟨ad, x, rfl, hb, hx, c0⟩ := hr.byte p3
    obtain ⟨A', sl, hcut⟩ := cutb_lo (A := some ad) (n := n) (c := c) .i64 (p + 1) ((p : Int) + 1) rfl (by omega) hc
    have hcons : l.drop p = x :: l.drop (p + 1) := by
      rw [List.drop_eq_getElem_cons (by omega)]
      congr 1
      rw [List.getElem?_eq_getElem (by omega)] at hx
      exact Option.some.inj hx
    rw [hcons]
    obtain ⟨s, hs⟩ : ∃ s, l.drop (p + 1) = s := ⟨_, rfl⟩
    have hsl : s.length = n - (p + 1) := by rw [← hs, List.length_drop]; omega
    have hA := hcut _ _ _ hr
    rw [hs] at hA ⊢
    have d0 : ∀ o o', ((w.alloc o).alloc o').cell? (ad.add p) = some (.int .u8 (x.toNat : Int)) := fun o o' => (World.cell?_alloc_lt _ o' _ (by rw [block_of_add]; simp; omega)).trans ((World.cell?_alloc_lt w o _ (by rw [block_of_add]; omega)).trans c0)
    have xb := x.toNat_lt
    have HA := Lib.hid hA
    clear hcut hr c0 hx hcons hs hA hl
    obtain ⟨n1, hn1⟩ : ∃ n1, n - (p + 1) = n1 := ⟨_, rfl⟩
    have hn1c : n1 ≤ c - (p + 1) := by omega
    rw [hn1] at HA sl hsl
    have Hsl := Lib.hid hsl
    have hnp : n = n1 + p + 1 := by omega
    have Hnp := Lib.hid hnp
    clear hn1 hsl hnp
    obtain ⟨c1, hc1⟩ : ∃ c1, c - (p + 1) = c1 := ⟨_, rfl⟩
    rw [hc1] at sl hn1c
    clear hc1
    have hk : x.toNat = 0 ∨ x.toNat = 1 ∨ x.toNat = 2 ∨ x.toNat = 3 ∨ 3 < x.toNat := by omega
    rcases hk with hk | hk | hk | hk | hk
    · have hx' : (x.toNat : Int) = 0 := by omega
      rw [hx'] at d0
      have hD : decV (x :: s) = .ok ⟨0, 0, ⟨#[]⟩⟩ s := by
        show (if x.toNat = 0 then _ else _) = _
        rw [if_pos hk]
      rw [hD]
      clear hD hx' hk
      go_enter Try.func44, Try.ntmps44
      go_wp2
      exact bodyPost_ret (v := .tuple #[.agg #[.int .u8 0, .int .i64 0, .string ⟨#[]⟩], .int .i64 ((p : Int) + 1), .int .i64 0]) (by simp [results, Try.results44, go_sem]) rfl (RetValue.ok_ (by have hz : Below w.heap.size w w := Below.refl _ _; repeat (first | exact hz | refine Below.setCell ?_ (show w.heap.size ≤ w.heap.size from Nat.le_refl _) _ | refine Below.setCell ?_ (show w.heap.size ≤ w.heap.size + 1 from Nat.le_succ _) _ | refine bdr ?_ _ | refine ball ?_ _)) (by rw [Hsl.out]; have := Hnp.out; omega) rfl)
    · have hx' : (x.toNat : Int) = 1 := by omega
      rw [hx'] at d0
      have hD : decV (x :: s) = decI s := by
        show (if x.toNat = 0 then _ else _) = _
        rw [hk]; rfl
      rw [hD]
      clear hD hx' hk
      unfold decI
      rw [Hsl.out]
      by_cases h8 : n1 < 8
      · have g1 : (n1 : Int) < 8 := by omega
        rw [if_pos h8]
        clear h8
        go_enter Try.func44, Try.ntmps44
        go_wp2
        exact bodyPost_ret (v := .tuple #[.agg #[.int .u8 0, .int .i64 0, .string ⟨#[]⟩], .int .i64 0, .int .i64 3]) (by simp [results, Try.results44, go_sem]) rfl (RetValue.bad_ (by have hz : Below w.heap.size w w := Below.refl _ _; repeat (first | exact hz | refine Below.setCell ?_ (show w.heap.size ≤ w.heap.size from Nat.le_refl _) _ | refine Below.setCell ?_ (show w.heap.size ≤ w.heap.size + 1 from Nat.le_succ _) _ | refine bdr ?_ _ | refine ball ?_ _)) rfl)
      · have g1 : (8 : Int) ≤ (n1 : Int) := by omega
        have g2 : 8 ≤ n1 := by omega
        rw [if_neg h8]
        clear h8
        go_enter Try.func44, Try.ntmps44
        go_wp2
        go_loop [9, 10] (fun uv iv => ∃ j : Nat, j ≤ 8 ∧ iv = .int .i64 j ∧ uv = .int .u64 ((beVal (s.take j) : Nat) : Int)) (fun _ iv => 8 - (intOf iv).toNat)
        case atStart => exact ⟨0, by omega, rfl, rfl⟩
        case round =>
          obtain ⟨j, hj, rfl, rfl⟩ := hrel
          have q0 : (0 : Int) ≤ (j : Int) := by omega
          by_cases hlt : j < 8
          · have q1 : (j : Int) < 8 := by omega
            have q2 : (j : Int) < (n1 : Int) := by omega
            obtain ⟨ad2, b, rfl, hb2, hx2, c02⟩ := HA.out.byte (k := j) (by omega)
            have hbt := Lib.hid (beVal_take hx2)
            have hlt2 : beVal (s.take j) < 72057594037927936 := by
              have h1 := beVal_lt (s.take j)
              have h2 : (s.take j).length ≤ 7 := by rw [List.length_take]; omega
              have h3 : 256 ^ (s.take j).length ≤ 256 ^ 7 := Nat.pow_le_pow_right (by omega) h2
              omega
            have hor := mul_byte (beVal (s.take j)) b hlt2
            rw [← hbt.out] at hor
            clear hx2 hlt2
            obtain ⟨U, hU⟩ : ∃ U, beVal (s.take j) = U := ⟨_, rfl⟩
            rw [hU] at hor ⊢
            clear hU
            have HOR := Lib.hid hor; clear hor
            have xb : (b.toNat : Int) ≤ 255 := by have := b.toNat_lt; omega
            have xb0 : (0 : Int) ≤ (b.toNat : Int) := by omega
            have d2 : ∀ o o', ((w.alloc o).alloc o').cell? (ad2.add j) = some (.int .u8 (b.toNat : Int)) := fun o o' => (World.cell?_alloc_lt _ o' _ (by rw [block_of_add]; simp; omega)).trans ((World.cell?_alloc_lt w o _ (by rw [block_of_add]; omega)).trans c02)
            go_wp2
            go_round
            case rel => exact ⟨j + 1, by omega, by go_num, val_int HOR.out⟩
            case measure => simp [intOf]; omega
          · obtain rfl : j = 8 := by omega
            go_wp2
            exact bodyPost_ret (v := .tuple #[.agg #[.int .u8 1, .int .i64 (IntKind.i64.wrap (beVal (s.take 8) : Int)), .string ⟨#[]⟩], .int .i64 ((p : Int) + 9), .int .i64 0]) (by simp [results, Try.results44, go_sem] <;> (rw [IntKind.wrap_i64, wrap64])) rfl (RetValue.ok_ (by have hz : Below w.heap.size w w := Below.refl _ _; repeat (first | exact hz | refine Below.setCell ?_ (show w.heap.size ≤ w.heap.size from Nat.le_refl _) _ | refine Below.setCell ?_ (show w.heap.size ≤ w.heap.size + 1 from Nat.le_succ _) _ | refine bdr ?_ _ | refine ball ?_ _)) (by rw [List.length_drop, Hsl.out]; have := Hnp.out; omega) rfl)
    · have hx' : (x.toNat : Int) = 2 := by omega
      rw [hx'] at d0
      have hD : decV (x :: s) = decB s := by
        show (if x.toNat = 0 then _ else _) = _
        rw [hk]; rfl
      rw [hD]
      clear hD hx' hk
      rcases s with _ | ⟨y, t⟩
      · have hz : n1 = 0 := by have := Hsl.out; simpa using this.symm
        subst hz
        show Calls _ _ _ _ (RetValue w n (.bad 3))
        go_enter Try.func44, Try.ntmps44
        go_wp2
        exact bodyPost_ret (v := .tuple #[.agg #[.int .u8 0, .int .i64 0, .string ⟨#[]⟩], .int .i64 0, .int .i64 3]) (by simp [results, Try.results44, go_sem]) rfl (RetValue.bad_ (by have hz : Below w.heap.size w w := Below.refl _ _; repeat (first | exact hz | refine Below.setCell ?_ (show w.heap.size ≤ w.heap.size from Nat.le_refl _) _ | refine Below.setCell ?_ (show w.heap.size ≤ w.heap.size + 1 from Nat.le_succ _) _ | refine bdr ?_ _ | refine ball ?_ _)) rfl)
      · have hz : n1 = t.length + 1 := by have := Hsl.out; simpa using this.symm
        have g1 : (1 : Int) ≤ (n1 : Int) := by omega
        have g2 : (0 : Int) < (n1 : Int) := by omega
        have g3 : 0 < n1 := by omega
        obtain ⟨ad2, b, rfl, hb2, hx2, c02⟩ := HA.out.byte (k := 0) g3
        simp only [List.getElem?_cons_zero, Option.some.injEq] at hx2
        subst hx2
        have c03 : w.cell? ad2 = some (.int .u8 (y.toNat : Int)) := by simpa [Addr.add] using c02
        have yb := y.toNat_lt
        have d2 : ∀ o o', ((w.alloc o).alloc o').cell? ad2 = some (.int .u8 (y.toNat : Int)) := fun o o' => (World.cell?_alloc_lt _ o' _ (by simp; omega)).trans ((World.cell?_alloc_lt w o _ (by omega)).trans c03)
        have Hz := Lib.hid hz
        clear hz c02 c03
        show Calls _ _ _ _ (RetValue w n (if 1 < y.toNat then .bad 2 else .ok ⟨2, y.toNat, ⟨#[]⟩⟩ t))
        by_cases h1 : 1 < y.toNat
        · rw [if_pos h1]
          have h1' : (1 : Int) < (y.toNat : Int) := by omega
          go_enter Try.func44, Try.ntmps44
          go_wp2
          exact bodyPost_ret (v := .tuple #[.agg #[.int .u8 0, .int .i64 0, .string ⟨#[]⟩], .int .i64 0, .int .i64 2]) (by simp [results, Try.results44, go_sem]) rfl (RetValue.bad_ (by have hz : Below w.heap.size w w := Below.refl _ _; repeat (first | exact hz | refine Below.setCell ?_ (show w.heap.size ≤ w.heap.size from Nat.le_refl _) _ | refine Below.setCell ?_ (show w.heap.size ≤ w.heap.size + 1 from Nat.le_succ _) _ | refine bdr ?_ _ | refine ball ?_ _)) rfl)
        · rw [if_neg h1]
          have h1' : (y.toNat : Int) ≤ 1 := by omega
          go_enter Try.func44, Try.ntmps44
          go_wp2
          exact bodyPost_ret (v := .tuple #[.agg #[.int .u8 2, .int .i64 (y.toNat : Int), .string ⟨#[]⟩], .int .i64 ((p : Int) + 2), .int .i64 0]) (by simp [results, Try.results44, go_sem]) rfl (RetValue.ok_ (by have hz : Below w.heap.size w w := Below.refl _ _; repeat (first | exact hz | refine Below.setCell ?_ (show w.heap.size ≤ w.heap.size from Nat.le_refl _) _ | refine Below.setCell ?_ (show w.heap.size ≤ w.heap.size + 1 from Nat.le_succ _) _ | refine bdr ?_ _ | refine ball ?_ _)) (by have := Hnp.out; have := Hz.out; omega) rfl)
    · have hx' : (x.toNat : Int) = 3 := by omega
      rw [hx'] at d0
      have hD : decV (x :: s) = decT s := by
        show (if x.toNat = 0 then _ else _) = _
        rw [hk]; rfl
      rw [hD]
      clear hD hx' hk
      rcases s with _ | ⟨y, t⟩
      · have hz : n1 = 0 := by have := Hsl.out; simpa using this.symm
        subst hz
        show Calls _ _ _ _ (RetValue w n (.bad 3))
        go_enter Try.func44, Try.ntmps44
        go_wp2
        exact bodyPost_ret (v := .tuple #[.agg #[.int .u8 0, .int .i64 0, .string ⟨#[]⟩], .int .i64 0, .int .i64 3]) (by simp [results, Try.results44, go_sem]) rfl (RetValue.bad_ (by have hz : Below w.heap.size w w := Below.refl _ _; repeat (first | exact hz | refine Below.setCell ?_ (show w.heap.size ≤ w.heap.size from Nat.le_refl _) _ | refine Below.setCell ?_ (show w.heap.size ≤ w.heap.size + 1 from Nat.le_succ _) _ | refine bdr ?_ _ | refine ball ?_ _)) rfl)
      · have hz : n1 = t.length + 1 := by have := Hsl.out; simpa using this.symm
        have g1 : (1 : Int) ≤ (n1 : Int) := by omega
        have g2 : (0 : Int) < (n1 : Int) := by omega
        have g3 : 0 < n1 := by omega
        obtain ⟨ad2, b, rfl, hb2, hx2, c02⟩ := HA.out.byte (k := 0) g3
        simp only [List.getElem?_cons_zero, Option.some.injEq] at hx2
        subst hx2
        have c03 : w.cell? ad2 = some (.int .u8 (y.toNat : Int)) := by simpa [Addr.add] using c02
        have yb := y.toNat_lt
        have yb1 : (y.toNat : Int) ≤ 255 := by omega
        have yb0 : (0 : Int) ≤ (y.toNat : Int) := by omega
        have d2 : ∀ o o', ((w.alloc o).alloc o').cell? ad2 = some (.int .u8 (y.toNat : Int)) := fun o o' => (World.cell?_alloc_lt _ o' _ (by simp; omega)).trans ((World.cell?_alloc_lt w o _ (by omega)).trans c03)
        have Hz := Lib.hid hz
        clear c02 c03
        show Calls _ _ _ _ (RetValue w n (if 48 < y.toNat then .bad 4 else if t.length < y.toNat then .bad 3 else .ok ⟨3, 0, str (t.take y.toNat)⟩ (t.drop y.toNat)))
        by_cases h1 : 48 < y.toNat
        · rw [if_pos h1]
          have h1' : (48 : Int) < (y.toNat : Int) := by omega
          clear hz
          go_enter Try.func44, Try.ntmps44
          go_wp2
          exact bodyPost_ret (v := .tuple #[.agg #[.int .u8 0, .int .i64 0, .string ⟨#[]⟩], .int .i64 0, .int .i64 4]) (by simp [results, Try.results44, go_sem]) rfl (RetValue.bad_ (by have hz : Below w.heap.size w w := Below.refl _ _; repeat (first | exact hz | refine Below.setCell ?_ (show w.heap.size ≤ w.heap.size from Nat.le_refl _) _ | refine Below.setCell ?_ (show w.heap.size ≤ w.heap.size + 1 from Nat.le_succ _) _ | refine bdr ?_ _ | refine ball ?_ _)) rfl)
        · rw [if_neg h1]
          have h1' : (y.toNat : Int) ≤ 48 := by omega
          by_cases h2 : t.length < y.toNat
          · rw [if_pos h2]
            have h2' : (n1 : Int) < 1 + (y.toNat : Int) := by omega
            clear hz
            go_enter Try.func44, Try.ntmps44
            go_wp2
            exact bodyPost_ret (v := .tuple #[.agg #[.int .u8 0, .int .i64 0, .string ⟨#[]⟩], .int .i64 0, .int .i64 3]) (by simp [results, Try.results44, go_sem]) rfl (RetValue.bad_ (by have hz : Below w.heap.size w w := Below.refl _ _; repeat (first | exact hz | refine Below.setCell ?_ (show w.heap.size ≤ w.heap.size from Nat.le_refl _) _ | refine Below.setCell ?_ (show w.heap.size ≤ w.heap.size + 1 from Nat.le_succ _) _ | refine bdr ?_ _ | refine ball ?_ _)) rfl)
          · rw [if_neg h2]
            have h2' : 1 + (y.toNat : Int) ≤ (n1 : Int) := by omega
            obtain ⟨A2, sl2, hcut2⟩ := cutb_mid (A := some ad2) (n := n1) (c := c1) .i64 .i64 1 (1 + y.toNat) 1 (1 + (y.toNat : Int)) rfl rfl (by omega) (by omega) hn1c
            have htk : ((y :: t).drop 1).take (1 + y.toNat - 1) = t.take y.toNat := by rw [Nat.add_sub_cancel_left]; rfl
            have hcv : ∀ o o', (convert 25 9 (.slice A2 (1 + y.toNat - 1) (c1 - 1))).run Try.prog ((w.alloc o).alloc o') = .ok (.string (str (t.take y.toNat))) ((w.alloc o).alloc o') := fun o o' => by
              have h := hcut2 _ _ _ (((HA.out).alloc hB o).alloc (by simp; omega) o')
              rw [htk] at h
              exact conv_reads h _ 5 _ Try.underlying25 Try.underlying5 Try.underlying9 _
            obtain ⟨m2, hm2⟩ : ∃ m2, 1 + y.toNat - 1 = m2 := ⟨_, rfl⟩
            rw [hm2] at sl2 hcv
            clear hcut2 hz htk hm2 h1 h2
            go_enter Try.func44, Try.ntmps44
            go_wp2
            exact bodyPost_ret (v := .tuple #[.agg #[.int .u8 3, .int .i64 0, .string (str (t.take y.toNat))], .int .i64 ((p : Int) + 2 + (y.toNat : Int)), .int .i64 0]) (by simp [results, Try.results44, go_sem]) rfl (RetValue.ok_ (by have hz : Below w.heap.size w w := Below.refl _ _; repeat (first | exact hz | refine Below.setCell ?_ (show w.heap.size ≤ w.heap.size from Nat.le_refl _) _ | refine Below.setCell ?_ (show w.heap.size ≤ w.heap.size + 1 from Nat.le_succ _) _ | refine bdr ?_ _ | refine ball ?_ _)) (by rw [List.length_drop]; have := Hnp.out; have := Hz.out; omega) rfl)
    · have hD : decV (x :: s) = .bad 6 := by
        show (if x.toNat = 0 then _ else _) = _
        rw [if_neg (by omega), if_neg (by omega), if_neg (by omega), if_neg (by omega)]
      rw [hD]
      have n0 : ((x.toNat : Int) == 0) = false := by simp; omega
      have n1' : ((x.toNat : Int) == 1) = false := by simp; omega
      have n2 : ((x.toNat : Int) == 2) = false := by simp; omega
      have n3 : ((x.toNat : Int) == 3) = false := by simp; omega
      have m0 : (x.toNat == 0) = false := by simp; omega
      have m1 : (x.toNat == 1) = false := by simp; omega
      have m2 : (x.toNat == 2) = false := by simp; omega
      have m3 : (x.toNat == 3) = false := by simp; omega
      clear hD hk
      go_enter Try.func44, Try.ntmps44
      go_wp2
      exact bodyPost_ret (v := .tuple #[.agg #[.int .u8 0, .int .i64 0, .string ⟨#[]⟩], .int .i64 0, .int .i64 6]) (by simp [results, Try.results44, go_sem]) rfl (RetValue.bad_ (by have hz : Below w.heap.size w w := Below.refl _ _; repeat (first | exact hz | refine Below.setCell ?_ (show w.heap.size ≤ w.heap.size from Nat.le_refl _) _ | refine Below.setCell ?_ (show w.heap.size ≤ w.heap.size + 1 from Nat.le_succ _) _ | refine bdr ?_ _ | refine ball ?_ _)) rfl)
end Go.Proofs.Ytcpbkaeilmabaab
