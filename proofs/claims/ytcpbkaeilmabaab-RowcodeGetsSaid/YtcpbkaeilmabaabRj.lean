/-
  Bytes as rows: contract of the program's Get.
-/
import Derived.Test.YtcpbkaeilmabaabRi
import Derived.Laws.MakeOwn
namespace Go.Proofs.Ytcpbkaeilmabaab
open Go.RowKit

inductive DecN
  | bad (e : Int)
  | ok (l : List Vl) (r : List UInt8)
def decN : Nat → List UInt8 → DecN
  | 0, r => .ok [] r
  | k + 1, r => match decV r with
    | .bad e => .bad e
    | .ok v r' => match decN k r' with
      | .bad e => .bad e
      | .ok l r'' => .ok (v :: l) r''
def DecN.pre (vs : List Vl) : DecN → DecN
  | .bad e => .bad e
  | .ok l r => .ok (vs ++ l) r
theorem decN_bad {k : Nat} {r : List UInt8} {e : Int} (h : decV r = .bad e) : decN (k + 1) r = .bad e := by rw [decN, h]
theorem decN_ok {k : Nat} {r r' : List UInt8} {v : Vl} (h : decV r = .ok v r') : decN (k + 1) r = (decN k r').pre [v] := by
  rw [decN, h]
  simp only
  cases decN k r' <;> rfl
theorem pre_pre (vs us : List Vl) (d : DecN) : (d.pre us).pre vs = d.pre (vs ++ us) := by cases d <;> simp [DecN.pre]
def finN : DecN → List Vl × Int
  | .bad e => ([], e)
  | .ok l [] => (l, 0)
  | .ok _ (_ :: _) => ([], 2)
def decRow : List UInt8 → List Vl × Int
  | [] => ([], 3)
  | k :: r => finN (decN k.toNat r)
theorem decV_len {l r : List UInt8} {v : Vl} (h : decV l = .ok v r) : r.length ≤ l.length ∧ v.ok := by
  have hz : (⟨0, 0, ⟨#[]⟩⟩ : Vl).ok := ⟨by simp, by simp, by simp [ByteArray.size, maxLen]⟩
  rcases l with _ | ⟨x, s⟩
  · cases h
  · rw [decV] at h
    split at h
    · cases h; exact ⟨by simp, hz⟩
    · split at h
      · unfold decI at h
        split at h
        · cases h
        · cases h
          refine ⟨by simp; omega, by simp, ?_, by simp [ByteArray.size, maxLen]⟩
          simp only
          rw [IntKind.wrap_i64]
          omega
      · split at h
        · rcases s with _ | ⟨y, t⟩
          · cases h
          · rw [decB] at h
            split at h
            · cases h
            · cases h
              exact ⟨by simp; omega, by simp, by simp only; have := y.toNat_lt; omega, by simp [ByteArray.size, maxLen]⟩
        · split at h
          · rcases s with _ | ⟨y, t⟩
            · cases h
            · rw [decT_cons] at h
              split at h
              · cases h
              · split at h
                · cases h
                · cases h
                  refine ⟨by simp; omega, by simp, by simp, ?_⟩
                  simp only
                  rw [str_size, List.length_take]
                  unfold maxLen
                  omega
          · cases h
def zV : List Value := [.int .u8 0, .int .i64 0, .string ⟨#[]⟩]
/-- A row of cnt values, the first ones known. -/
def rowA (vs : List Vl) (cnt : Nat) : Array Value := (vV vs ++ (List.replicate (cnt - vs.length) zV).flatten).toArray
theorem rowA_full (vs : List Vl) : rowA vs vs.length = (vV vs).toArray := by simp [rowA]
theorem flat_rep (cnt : Nat) : (List.range (cnt * 3)).map (fun i => zV.toArray[i % zV.toArray.size]!) = (List.replicate cnt zV).flatten := by
  induction cnt with
  | zero => rfl
  | succ n ih =>
    rw [show (n + 1) * 3 = n * 3 + 1 + 1 + 1 from by omega, List.range_succ, List.range_succ, List.range_succ, List.map_append, List.map_append, List.map_append, ih, List.replicate_succ', List.flatten_append]
    have h0 : (n * 3) % 3 = 0 := by omega
    have h1 : (n * 3 + 1) % 3 = 1 := by omega
    have h2 : (n * 3 + 1 + 1) % 3 = 2 := by omega
    simp [zV, h0, h1, h2]
theorem rowA_zero (cnt : Nat) : madeCells zV.toArray (cnt * 3) = rowA [] cnt := by
  apply Array.ext'
  unfold rowA madeCells
  rw [Array.toList_map, Array.toList_range]
  simp only [vV, List.flatMap_nil, List.nil_append, List.length_nil, Nat.sub_zero]
  exact flat_rep cnt
theorem rowA_set (vs : List Vl) (v : Vl) (cnt : Nat) (h : vs.length < cnt) :
    (((rowA vs cnt).setIfInBounds (vs.length * 3) (.int .u8 v.k)).setIfInBounds (vs.length * 3 + 1) (.int .i64 v.i)).setIfInBounds (vs.length * 3 + 2) (.string v.s) = rowA (vs ++ [v]) cnt := by
  obtain ⟨m, hm⟩ : ∃ m, cnt - vs.length = m + 1 := ⟨cnt - vs.length - 1, by omega⟩
  have hm2 : cnt - (vs ++ [v]).length = m := by simp; omega
  have hl := vV_len vs
  have e : vV (vs ++ [v]) = vV vs ++ v.cells := by simp [vV]
  unfold rowA
  rw [hm, hm2, List.replicate_succ, List.flatten_cons, e]
  obtain ⟨X, hX⟩ : ∃ X, vV vs = X := ⟨_, rfl⟩
  rw [hX] at hl ⊢
  simp only [List.setIfInBounds_toArray]
  congr 1
  rw [List.set_append_right _ _ (by omega), List.set_append_right _ _ (by omega), List.set_append_right _ _ (by omega), hl, Nat.sub_self, Nat.add_sub_cancel_left, Nat.add_sub_cancel_left]
  simp [zV, Vl.cells]
theorem Blk.newAt {w : World} {t : TypeId} {cs : Array Value} {g : Nat} (h : g = w.heap.size) : Blk (w.alloc (.cells cs t)) g t cs := by subst h; exact Blk.new _ _ _
theorem rowA_at (vs : List Vl) (cnt : Nat) (h : vs.length < cnt) : (rowA vs cnt)[vs.length * 3]? = some (.int .u8 0) ∧ (rowA vs cnt)[vs.length * 3 + 1]? = some (.int .i64 0) ∧ (rowA vs cnt)[vs.length * 3 + 2]? = some (.string ⟨#[]⟩) := by
  obtain ⟨m, hm⟩ : ∃ m, cnt - vs.length = m + 1 := ⟨cnt - vs.length - 1, by omega⟩
  have hl := vV_len vs
  unfold rowA
  rw [hm, List.replicate_succ, List.flatten_cons]
  obtain ⟨X, hX⟩ : ∃ X, vV vs = X := ⟨_, rfl⟩
  rw [hX] at hl ⊢
  simp only [List.getElem?_toArray]
  refine ⟨?_, ?_, ?_⟩
  · rw [List.getElem?_append_right (l₁ := X) (by omega), hl, Nat.sub_self]; rfl
  · rw [List.getElem?_append_right (l₁ := X) (by omega), hl, Nat.add_sub_cancel_left]; rfl
  · rw [List.getElem?_append_right (l₁ := X) (by omega), hl, Nat.add_sub_cancel_left]; rfl
theorem decV_bad {l : List UInt8} {e : Int} (h : decV l = .bad e) : e = 2 ∨ e = 3 ∨ e = 4 ∨ e = 6 := by
  rcases l with _ | ⟨x, s⟩
  · cases h; omega
  · rw [decV] at h
    split at h
    · cases h
    · split at h
      · unfold decI at h
        split at h <;> cases h
        omega
      · split at h
        · rcases s with _ | ⟨y, t⟩
          · cases h; omega
          · rw [decB] at h
            split at h <;> cases h
            omega
        · split at h
          · rcases s with _ | ⟨y, t⟩
            · cases h; omega
            · rw [decT_cons] at h
              split at h
              · cases h; omega
              · split at h <;> cases h
                omega
          · cases h; omega
def RetVs (w : World) (d : List Vl × Int) (e : Ending) (w' : World) : Prop := ∃ A c, e = .returned (.tuple #[.slice A d.1.length c, .int .i64 d.2]) ∧ Reads w' w'.heap.size 3 A d.1.length (vV d.1) ∧ d.1.length ≤ c ∧ Below w.heap.size w w' ∧ (∀ ad, A = some ad → w.heap.size ≤ ad.block)
theorem Try.infoV : (Try.prog.info? 56).map (fun i => (i.zero, i.size, i.bytes)) = some (some (.agg #[.int .u8 0, .int .i64 0, .string ⟨#[]⟩]), 3, 32) := by kernel_rfl
theorem reads_vs {w : World} {g n : Nat} {t : TypeId} {vs : List Vl} (h : Blk w g t (vV vs).toArray) (hn : vs.length = n) : Reads w w.heap.size 3 (some ⟨g, 0, none⟩) n (vV vs) := by
  refine ⟨by rw [vV_len]; omega, fun _ => ⟨_, rfl, h.lt, fun j u hu => ?_⟩⟩
  rw [add_head, h.cell, List.getElem?_toArray]
  exact hu

set_option maxRecDepth 100000 in
set_option maxHeartbeats 4000000 in
theorem rget_any (A : Option Addr) (n c : Nat) (l : List UInt8) (w : World) (hr : Reads w w.heap.size 1 A n (bL l)) (hc : n ≤ c) (hn : n ≤ 10000) :
    Calls Try.prog 18 #[.slice A n c] w (RetVs w (decRow l)) := by
  have hl := hr.bytes_len
  rcases l with _ | ⟨x, s⟩
  · simp only [List.length_nil] at hl
    subst hl
    go_enter Try.func18, Try.ntmps18
    go_wp2
    go_ret2
    exact ⟨none, 0, rfl, Reads.none_, Nat.le_refl _, Below.refl _ _, fun _ h => by cases h⟩
  · simp only [List.length_cons] at hl
    obtain ⟨ad, b, rfl, hb, hx, c0⟩ := hr.byte (k := 0) (by omega)
    simp only [List.getElem?_cons_zero, Option.some.injEq] at hx
    subst hx
    have g1 : (0 : Int) < (n : Int) := by omega
    have g2 : 0 < n := by omega
    have e0 : (n == 0) = false := by simp; omega
    have e0' : ((n : Int) == 0) = false := by simp; omega
    obtain ⟨A', sl, hcut⟩ := cutb_lo (A := some ad) (n := n) (c := c) .i64 1 1 rfl (by omega) hc
    have d0 : w.cell? ad = some (.int .u8 (x.toNat : Int)) := by simpa [Addr.add] using c0
    have xb := x.toNat_lt
    have HR : Hid (∀ k o, Reads ((w.drewN k).alloc o) w.heap.size 1 A' (n - 1) (bL s)) := fun k o => ((hcut _ _ _ (hr.drewN k))).alloc (Nat.le_refl _) o
    obtain ⟨i0, hi0, hz0, hs0, hy0⟩ := int_info8 Try.infoV
    obtain ⟨cnt, hcnt⟩ : ∃ cnt, x.toNat = cnt := ⟨_, rfl⟩
    have hD : decRow (x :: s) = finN (decN cnt s) := by rw [← hcnt]; rfl
    rw [hD]
    rw [hcnt] at d0 xb
    have mk0 : ∀ W, (Instr.makeSlice 22 (.int .i64 (cnt : Int)) (.int .i64 (cnt : Int))).run Try.prog W = .ok (.slice (some ⟨W.heap.size, 0, none⟩) cnt cnt) (W.alloc (.cells (rowA [] cnt) 56)) := by
      intro W
      have h := run_make (P := Try.prog) W 22 56 i0 _ Try.underlying22 hi0 hz0 .i64 .i64 (cnt : Int) (cnt : Int) (by omega) (by omega) (by rw [hy0]; omega) (by omega)
      rw [Int.toNat_natCast, hs0] at h
      rw [← rowA_zero]
      exact h
    clear hi0 hz0 hs0 hy0 hcut hr c0 hD hcnt
    have xI : (cnt : Int) ≤ 255 := by omega
    have hs10 : s.length ≤ 10000 := by omega
    have hn1 : n - 1 ≤ 10000 := by omega
    clear hl
    go_enter Try.func18, Try.ntmps18
    go_wp2
    go_quiet (fail)
    go_wp2
    clear sl mk0
    go_loopw [5, 21] (fun rv iv wr => ∃ (j : Nat) (vs : List Vl) (r : List UInt8) (A3 : Option Addr) (n3 c3 : Nat), j ≤ cnt ∧ iv = .int .i64 j ∧ vs.length = j ∧ rv = .slice A3 n3 c3 ∧ n3 ≤ c3 ∧ n3 ≤ 10000 ∧ Reads wr w.heap.size 1 A3 n3 (bL r) ∧ Blk wr w.heap.size 56 (rowA vs cnt) ∧ Hid (decN cnt s = (decN (cnt - j) r).pre vs) ∧ Below w.heap.size w wr) (fun _ iv _ => cnt - (intOf iv).toNat)
    case atStart => exact ⟨0, [], s, A', n - 1, c - 1, by omega, rfl, rfl, rfl, by omega, hn1, HR.out _ _, Blk.newAt (by simp), Lib.hid (by simp [DecN.pre]; cases decN cnt s <;> rfl), ball (bdr (Below.refl _ _) _) _⟩
    case round =>
      obtain ⟨j, vs, r, A3, n3, c3, hj, rfl, hvs, rfl, hc3, hn3, hr3, hB, hd, hbw⟩ := hrel
      have q0 : (0 : Int) ≤ (j : Int) := by omega
      by_cases hlt : j < cnt
      · have q1 : (j : Int) < (cnt : Int) := by omega
        have M := Lib.hid (get_any A3 n3 c3 w.heap.size r wr hr3 hbw.size hc3 hn3)
        have hzr : w.heap.size < wr.heap.size := hB.lt
        subst hvs
        go_wp2_with fail
        refine M.out.mono ?_
        rcases hdv : decV r with ke | ⟨v, r'⟩
        · rintro e w1 ⟨hb1, rfl⟩
          have X1 := hB.below hb1 hzr
          obtain ⟨a0, a1, a2⟩ := rowA_at vs cnt hlt
          have y0 := (X1.cell (vs.length * 3)).trans a0; have y1 := (X1.cell (vs.length * 3 + 1)).trans a1; have y2 := (X1.cell (vs.length * 3 + 2)).trans a2
          have z0 := X1.frozen (vs.length * 3); have z1 := X1.frozen (vs.length * 3 + 1); have z2 := X1.frozen (vs.length * 3 + 2)
          have hke := decV_bad hdv
          have n1 : (ke == 0) = false := by simp; omega
          have n2 : (ke != 0) = true := by simp; omega
          have hfin : finN (decN cnt s) = ([], ke) := by
            rw [hd.out, show cnt - vs.length = (cnt - vs.length - 1) + 1 from by omega, decN_bad hdv]; rfl
          have HF := Lib.hid hfin
          clear hdv a0 a1 a2 hke hfin
          go_wp2
          go_ret2
          rw [HF.out]
          exact ⟨none, 0, rfl, Reads.none_, Nat.le_refl _, (by have hz := bto0 hbw hb1; repeat (first | exact hz | refine Below.setCell ?_ (show w.heap.size ≤ w.heap.size from Nat.le_refl _) _)), fun _ h => by cases h⟩
        · rintro e w1 ⟨hb1, A4, n4, c4, rfl, hc4, hr4⟩
          have X1 := hB.below hb1 hzr
          obtain ⟨a0, a1, a2⟩ := rowA_at vs cnt hlt
          have y0 := (X1.cell (vs.length * 3)).trans a0; have y1 := (X1.cell (vs.length * 3 + 1)).trans a1; have y2 := (X1.cell (vs.length * 3 + 2)).trans a2
          have z0 := X1.frozen (vs.length * 3); have z1 := X1.frozen (vs.length * 3 + 1); have z2 := X1.frozen (vs.length * 3 + 2)
          have hd2 : Hid (decN cnt s = (decN (cnt - (vs.length + 1)) r').pre (vs ++ [v])) := by
            have : decN cnt s = (decN (cnt - (vs.length + 1)) r').pre (vs ++ [v]) := by
              rw [hd.out, show cnt - vs.length = (cnt - (vs.length + 1)) + 1 from by omega, decN_ok hdv, pre_pre]
            exact Lib.hid this
          have hn4 : n4 ≤ 10000 := by
            have h1 := (decV_len hdv).1
            have h2 := hr3.bytes_len
            have h3 := hr4.bytes_len
            omega
          have hset := Lib.hid (rowA_set vs v cnt hlt)
          clear hdv a0 a1 a2 hd
          obtain ⟨vk, vi, vs'⟩ := v
          simp only at hset
          go_wp2
          go_roundw
          case rel => exact ⟨vs.length + 1, vs ++ [⟨vk, vi, vs'⟩], r', A4, n4, c4, by omega, by go_num, by simp, rfl, hc4, hn4, by repeat (first | exact hr4 | refine Reads.setCell ?_ (show w.heap.size ≤ w.heap.size from Nat.le_refl _) _), by rw [← hset.out]; exact ((X1.set_ _ _).set_ _ _).set_ _ _, hd2, by have hz := bto0 hbw hb1; repeat (first | exact hz | refine Below.setCell ?_ (show w.heap.size ≤ w.heap.size from Nat.le_refl _) _)⟩
          case measure => simp [intOf]; omega
      · obtain rfl : j = cnt := by omega
        have hfin : finN (decN j s) = finN (.ok vs r) := by
          rw [hd.out, Nat.sub_self]; simp [decN, DecN.pre]
        have HF := Lib.hid hfin
        clear hfin hd
        have hrl := hr3.bytes_len
        rcases r with _ | ⟨y, t⟩
        · simp only [List.length_nil] at hrl
          subst hrl
          have Hvs := Lib.hid hvs; clear hvs
          go_wp2
          go_ret2
          rw [HF.out]
          refine ⟨some ⟨w.heap.size, 0, none⟩, j, by show _ = Ending.returned (.tuple #[.slice _ vs.length _, _]); rw [Hvs.out]; rfl, ?_, Nat.le_of_eq Hvs.out, hbw, fun _ h => by injection h with h; subst h; exact Nat.le_refl _⟩
          have h2 : rowA vs j = (vV vs).toArray := by rw [← Hvs.out]; exact rowA_full vs
          rw [h2] at hB
          exact reads_vs hB rfl
        · simp only [List.length_cons] at hrl
          have p0 : 0 < n3 := by omega
          have p1 : (0 : Int) < (n3 : Int) := by omega
          clear hvs
          go_wp2
          go_ret2
          rw [HF.out]
          exact ⟨none, 0, rfl, Reads.none_, Nat.le_refl _, hbw, fun _ h => by cases h⟩
end Go.Proofs.Ytcpbkaeilmabaab
