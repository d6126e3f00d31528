/-
  Bytes as rows: contracts of the reference's Same (of two rows that read the same), Get.
-/
import Derived.Test.YtcpbkaeilmabaabRk
namespace Go.Proofs.Ytcpbkaeilmabaab
open Go.RowKit

theorem wpList_pushG {P : Program} {w : World} {ops : Array Oper} {rest : List Oper} {o : Oper} {a : Act} {Q : Exit → Act → World → Prop} {news : List Value} {arr : Array Value} (hgd : o.guard = none) (s x : Operand) (t : TypeId)
    (ho : o.op = .call { callee := .builtin .append, args := #[s, x], argTypes := #[t, t] })
    (base : Nat) (e : TypeId) (i : TypeInfo) (z : Value) (size bytes : Nat) (ht : P.underlying t = some (.slice e)) (hi : P.info? e = some i) (hz : i.zero = some z)
    (hsize : i.size = size) (hby : i.bytes = bytes) (hzs : z.cells.size = size) (hsz : 0 < size)
    (v : Value) (n : Nat) (xs : List Value) (hs : a.eval s = v) (hown : w.ownsRow base e size v n xs)
    (harr : arr = news.toArray) (g : Nat) (hx : a.eval x = .slice (some ⟨g, 0, none⟩) 1 1) (hg : g = w.heap.size) (hl : news.length = size) (h1 : ∀ u ∈ news, u.oneCell' = true)
    (h63 : n + 1 ≤ 1000000000) (hbytes : bytes ≤ 10000) (hbase : base ≤ w.heap.size)
    (h : ∀ v' w', w'.ownsRow base e size v' (n + 1) (xs ++ news) → (∀ B w0, B ≤ base → Below B w0 w → Below B w0 w') → wpList P ops Q rest (a.put o.dst v') w') : wpList P ops Q (o :: rest) a (w.alloc (.cells arr e)) := by
  subst hg
  exact wpList_push hgd s x t ho base e i z size bytes ht hi hz hsize hby hzs hsz v n xs hs hown harr hx hl h1 h63 hbytes hbase h
theorem vV_snoc (vs : List Vl) (v : Vl) : vV (vs ++ [v]) = vV vs ++ v.cells := by simp [vV]
theorem cells_one (v : Vl) : ∀ u ∈ v.cells, u.oneCell' = true := by
  intro u hu
  simp only [Vl.cells, List.mem_cons, List.not_mem_nil, or_false] at hu
  rcases hu with rfl | rfl | rfl <;> rfl

set_option maxRecDepth 100000 in
set_option maxHeartbeats 2000000 in
theorem same_any (A : Option Addr) (n c : Nat) (A2 : Option Addr) (c2 : Nat) (l : List Vl) (w : World) (hr : Reads w w.heap.size 3 A n (vV l)) (hr2 : Reads w w.heap.size 3 A2 n (vV l)) (hn : n ≤ 1000000) :
    Calls Try.prog 19 #[.slice A n c, .slice A2 n c2] w (RetB w (.bool true)) := by
  have hnI : (n : Int) ≤ 1000000 := by omega
  go_enter Try.func19, Try.ntmps19
  go_wp2
  go_loopw [13] (fun iv wr => ∃ j : Nat, j ≤ n ∧ iv = .int .i64 j ∧ Below w.heap.size w wr) (fun iv _ => n - (intOf iv).toNat)
  case atStart => exact ⟨0, by omega, rfl, Below.refl _ _⟩
  case round =>
    obtain ⟨j, hj, rfl, hb⟩ := hrel
    have q0 : (0 : Int) ≤ (j : Int) := by omega
    by_cases hlt : j < n
    · have q1 : (j : Int) < (n : Int) := by omega
      obtain ⟨ad, v, rfl, hab, hv, d0, d1, d2⟩ := (hr.below hb).val hlt
      obtain ⟨ad2, v2, rfl, hab2, hv2, d20, d21, d22⟩ := (hr2.below hb).val hlt
      rw [hv] at hv2
      injection hv2 with hv2
      subst hv2
      clear hv
      obtain ⟨vk, vi, vs⟩ := v
      simp only at d0 d1 d2 d20 d21 d22
      go_wp2
      go_quiet (fail)
      go_wp2
      go_roundw
      case rel => exact ⟨j + 1, by omega, by go_num, bdr hb _⟩
      case measure => simp [intOf]; omega
    · go_wp2
      go_ret
      exact ⟨rfl, hb⟩
theorem decV_suffix {m r : List UInt8} {v : Vl} (h : decV m = .ok v r) : ∃ k, r = m.drop k := by
  rcases m with _ | ⟨x, s⟩
  · cases h
  · rw [decV] at h
    split at h
    · cases h; exact ⟨1, rfl⟩
    · split at h
      · unfold decI at h
        split at h <;> cases h
        exact ⟨9, rfl⟩
      · split at h
        · rcases s with _ | ⟨y, t⟩
          · cases h
          · rw [decB] at h
            split at h <;> cases h
            exact ⟨2, rfl⟩
        · split at h
          · rcases s with _ | ⟨y, t⟩
            · cases h
            · rw [decT_cons] at h
              split at h
              · cases h
              · split at h <;> cases h
                exact ⟨y.toNat + 2, rfl⟩
          · cases h
theorem decV_next {l r : List UInt8} {v : Vl} {p n : Nat} (h : decV (l.drop p) = .ok v r) (hl : l.length = n) : l.drop (n - r.length) = r := by
  obtain ⟨k, rfl⟩ := decV_suffix h
  rw [List.drop_drop, List.length_drop, hl]
  by_cases hk : p + k ≤ n
  · congr 1; omega
  · rw [List.drop_eq_nil_of_le (by omega), List.drop_eq_nil_of_le (by omega)]

set_option maxRecDepth 100000 in
set_option maxHeartbeats 4000000 in
theorem rget2_any (A : Option Addr) (n c : Nat) (l : List UInt8) (w : World) (hr : Reads w w.heap.size 1 A n (bL l)) (hc : n ≤ c) (hn : n ≤ 10000) :
    Calls Try.prog 20 #[.slice A n c] w (RetVs w (decRow l)) := by
  have hl := hr.bytes_len
  rcases l with _ | ⟨x, s⟩
  · simp only [List.length_nil] at hl
    subst hl
    go_enter Try.func20, Try.ntmps20
    go_wp2
    go_ret2
    exact ⟨_, _, rfl, ⟨rfl, fun h => absurd h (Nat.lt_irrefl _)⟩, Nat.le_refl _, ball (Below.refl _ _) _, fun _ h => by injection h with h; subst h; exact Nat.le_refl _⟩
  · have hl' := hl
    simp only [List.length_cons] at hl'
    obtain ⟨ad, b, rfl, hb, hx, c0⟩ := hr.byte (k := 0) (by omega)
    simp only [List.getElem?_cons_zero, Option.some.injEq] at hx
    subst hx
    have g1 : (0 : Int) < (n : Int) := by omega
    have g2 : 0 < n := by omega
    have e0 : (n == 0) = false := by simp; omega
    have e0' : ((n : Int) == 0) = false := by simp; omega
    have d0 : w.cell? ad = some (.int .u8 (x.toNat : Int)) := by simpa [Addr.add] using c0
    have xb := x.toNat_lt
    obtain ⟨i0, hi0, hz0, hs0, hy0⟩ := int_info8 Try.infoV
    obtain ⟨cnt, hcnt⟩ : ∃ cnt, x.toNat = cnt := ⟨_, rfl⟩
    have hD : decRow (x :: s) = finN (decN cnt s) := by rw [← hcnt]; rfl
    rw [hD]
    rw [hcnt] at d0 xb
    have hs1 : s = (x :: s).drop 1 := rfl
    obtain ⟨L, hL⟩ : ∃ L, x :: s = L := ⟨_, rfl⟩
    rw [hL] at hs1 hr hl
    have Hl := Lib.hid hl
    have Hs1 := Lib.hid hs1
    clear hD hcnt c0 hl hl' hs1 hL
    have xI : (cnt : Int) ≤ 255 := by omega
    have hO := (own_empty (w.alloc (.cells #[] 56)) 56 3 (g := w.heap.size + 1) (by simp))
    have hO2 := World.ownsRow.mono (base' := w.heap.size) hO (by simp)
    have hb0 : Below w.heap.size w ((w.alloc (.cells #[] 56)).alloc (.cells #[] 56)) := ball (ball (Below.refl _ _) _) _
    clear hO
    go_enter Try.func20, Try.ntmps20
    go_wp2
    go_loopw [5, 6, 7] (fun rv av iv wr => ∃ (j p : Nat) (vs : List Vl), j ≤ cnt ∧ iv = .int .i64 j ∧ vs.length = j ∧ av = .int .i64 p ∧ p ≤ n ∧ wr.ownsRow w.heap.size 56 3 rv j (vV vs) ∧ Hid (decN cnt s = (decN (cnt - j) (L.drop p)).pre vs) ∧ Below w.heap.size w wr) (fun _ _ iv _ => cnt - (intOf iv).toNat)
    case atStart => exact ⟨0, 1, [], by omega, rfl, rfl, rfl, by omega, hO2, Lib.hid (by rw [← Hs1.out, Nat.sub_zero]; simp [DecN.pre]; cases decN cnt s <;> rfl), hb0⟩
    case round =>
      clear hO2 hb0
      obtain ⟨j, p, vs, hj, rfl, hvs, rfl, hp, hown, hd, hbw⟩ := hrel
      have q0 : (0 : Int) ≤ (j : Int) := by omega
      have dr : wr.cell? ad = some (.int .u8 (cnt : Int)) := (hbw.cell hb).trans d0
      have pI : (p : Int) ≤ (n : Int) := by omega
      have p0 : (0 : Int) ≤ (p : Int) := by omega
      by_cases hlt : j < cnt
      · have q1 : (j : Int) < (cnt : Int) := by omega
        have M := Lib.hid (rvalue_any (some ad) n c p w.heap.size L wr (hr.below hbw) hbw.size hc hn (by omega))
        go_wp2_with fail
        refine M.out.mono ?_
        rcases hdv : decV (L.drop p) with ke | ⟨v, r'⟩
        · rintro e w1 ⟨hb1, rfl⟩
          have hke := decV_bad hdv
          have n1 : (ke == 0) = false := by simp; omega
          have n2 : (ke != 0) = true := by simp; omega
          have hfin : finN (decN cnt s) = ([], ke) := by
            rw [hd.out, show cnt - j = (cnt - j - 1) + 1 from by omega, decN_bad hdv]; rfl
          have HF := Lib.hid hfin
          clear hdv hke hfin hvs
          go_wp2
          go_ret2
          rw [HF.out]
          exact ⟨_, _, rfl, ⟨rfl, fun h => absurd h (Nat.lt_irrefl _)⟩, Nat.le_refl _, ball (bto0 hbw hb1) _, fun _ h => by injection h with h; subst h; exact Nat.le_refl _⟩
        · rintro e w1 ⟨hb1, rfl⟩
          have hd2 : Hid (decN cnt s = (decN (cnt - (j + 1)) (L.drop (n - r'.length))).pre (vs ++ [v])) := by
            have : decN cnt s = (decN (cnt - (j + 1)) (L.drop (n - r'.length))).pre (vs ++ [v]) := by
              rw [decV_next hdv Hl.out, hd.out, show cnt - j = (cnt - (j + 1)) + 1 from by omega, decN_ok hdv, pre_pre]
            exact Lib.hid this
          have hown1 := World.ownsRow.kept (row := none) hown ⟨hb1.os, hb1.tape, hb1.output, hb1.size, fun i hi _ => hb1.block i hi⟩ (by cases h' : u5.ownBlock <;> simp)
          have hbs : w.heap.size ≤ w1.heap.size := Nat.le_trans hbw.size hb1.size
          obtain ⟨q, hq⟩ : ∃ q, n - r'.length = q := ⟨_, rfl⟩
          rw [hq] at hd2 ⊢
          have hqn : q ≤ n := by omega
          clear hdv hd hq
          obtain ⟨vk, vi, vs'⟩ := v
          have Hvs := Lib.hid hvs
          go_wp2_with (at_builtin; refine wpList_pushG (news := Vl.cells ⟨vk, vi, vs'⟩) rfl _ _ 22 rfl w.heap.size 56 i0 _ 3 32 Try.underlying22 hi0 hz0 hs0 hy0 rfl (by decide) u5 j _ rfl (hown1.alloc _) rfl _ rfl (by simp) rfl (cells_one _) (by omega) (by omega) (by simp; omega) ?_; intro v3 w3 hown3 hk3)
          go_roundw
          case rel => exact ⟨j + 1, q, vs ++ [⟨vk, vi, vs'⟩], by omega, by go_num, by simp [Hvs.out], rfl, hqn, (by rw [vV_snoc]; exact hown3), hd2, hk3 _ _ (Nat.le_refl _) (ball (bto0 hbw hb1) _)⟩
          case measure => simp [intOf]; omega
      · obtain rfl : j = cnt := by omega
        have hfin : finN (decN j s) = finN (.ok vs (L.drop p)) := by
          rw [hd.out, Nat.sub_self]; simp [decN, DecN.pre]
        have HF := Lib.hid hfin
        clear hfin hd
        have Hvs := Lib.hid hvs; clear hvs
        obtain ⟨A5, c5, rfl, hc5⟩ := own_form hown
        by_cases hpn : p < n
        · have pI2 : (p : Int) < (n : Int) := by omega
          have hne : ∃ y t, L.drop p = y :: t := ⟨_, _, List.drop_eq_getElem_cons (by rw [Hl.out]; exact hpn)⟩
          obtain ⟨y, t, hyt⟩ := hne
          have HF2 : Hid (finN (decN j s) = ([], 2)) := Lib.hid (by rw [HF.out, hyt]; rfl)
          clear hyt HF
          go_wp2
          go_ret2
          rw [HF2.out]
          exact ⟨_, _, rfl, ⟨rfl, fun h => absurd h (Nat.lt_irrefl _)⟩, Nat.le_refl _, hbw, fun _ h => by injection h with h; subst h; exact Nat.le_refl _⟩
        · have hnil : L.drop p = [] := List.drop_eq_nil_of_le (by rw [Hl.out]; omega)
          have HF2 : Hid (finN (decN j s) = (vs, 0)) := Lib.hid (by rw [HF.out, hnil]; rfl)
          have pI2 : (n : Int) ≤ (p : Int) := by omega
          clear hnil HF
          go_wp2
          go_ret2
          rw [HF2.out]
          refine ⟨A5, c5, by show _ = Ending.returned (.tuple #[.slice _ vs.length _, _]); rw [Hvs.out]; rfl, ?_, by show vs.length ≤ c5; rw [Hvs.out]; exact hc5, hbw, fun ad h => by subst h; exact (hown.lt _ rfl).1⟩
          show Reads _ _ 3 A5 vs.length (vV vs)
          rw [Hvs.out]
          exact Reads.of_own hown
end Go.Proofs.Ytcpbkaeilmabaab
