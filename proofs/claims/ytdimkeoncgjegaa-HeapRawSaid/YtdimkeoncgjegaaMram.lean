/-
  Several texts in one: Ph Dv Dw Dx.
-/
import Derived.Test.YtdimkeoncgjegaaMral
import Derived.Test.YtdimkeoncgjegaaMrae
import Derived.Test.YtdimkeoncgjegaaMrah
import Derived.Test.YtdimkeoncgjegaaMraf
import Derived.Test.YtdimkeoncgjegaaMrag
import Derived.BigGuardPart
import Derived.Lib.ConvBytes
import Derived.Lib.SliceRun
import Derived.Deep.Upon
/-
  Pool: Get, whatever is kept; New, Reset, counts, pages.
-/
namespace Go.Proofs.Ytdimkeoncgjegaa
section
set_option linter.unusedSimpArgs false
set_option linter.unusedVariables false
open Go.RowKit Go.Maps

/-- What a page that is got turns: the pages that are kept, reads, hits. -/
def stepG (size : Nat) (s : List Nat × Nat × Nat) (p : Nat) : List Nat × Nat × Nat :=
  if p ∈ s.1 then (s.1.erase p ++ [p], s.2.1, s.2.2 + 1) else ((if s.1.length < size then s.1 else s.1.tail) ++ [p], s.2.1 + 1, s.2.2)
def pgs (K : List Fr) : List Nat := K.map Fr.p
theorem erase_idx : ∀ (P : List Nat) (i p : Nat), P.Nodup → P[i]? = some p → P.eraseIdx i = P.erase p
  | [], i, p, _, h => by simp at h
  | x :: P, 0, p, _, h => by
    simp only [List.getElem?_cons_zero, Option.some.injEq] at h
    subst h
    simp
  | x :: P, i + 1, p, hn, h => by
    simp only [List.getElem?_cons_succ] at h
    have hx : x ≠ p := fun e => by
      subst e
      exact (List.nodup_cons.1 hn).1 (List.mem_of_getElem? h)
    rw [List.eraseIdx_cons_succ, List.erase_cons_tail (by simpa using hx), erase_idx P i p (List.nodup_cons.1 hn).2 h]
theorem map_eraseIdx_ {α β : Type} (f : α → β) : ∀ (l : List α) (i : Nat), (l.eraseIdx i).map f = (l.map f).eraseIdx i
  | [], _ => rfl
  | _ :: _, 0 => rfl
  | x :: l, i + 1 => by simp [map_eraseIdx_ f l i]
section
variable {w : World} {lo gp gd gb gt n : Nat} {ps : List (List UInt8)} {T : List Bool} {gm size : Nat} {K : List Fr} {D : DataW Unit} {rd ht : Nat}
theorem PS.nodup (h : PS w lo gp gd gb gt n ps T gm size K D rd ht) : (pgs K).Nodup := by
  unfold pgs
  unfold List.Nodup
  rw [List.pairwise_iff_getElem]
  intro i j hi hj hij e
  rw [List.length_map] at hi hj
  rw [List.getElem_map, List.getElem_map] at e
  have := h.pg i j _ _ (List.getElem?_eq_getElem hi) (List.getElem?_eq_getElem hj) e
  omega
/-- What Get leaves, whatever was kept. -/
def RetG (w : World) (lo gp gd gb gt n : Nat) (ps : List (List UInt8)) (T : List Bool) (gm size : Nat) (K : List Fr) (rd ht p : Nat) (l : List UInt8) (e : Ending) (w' : World) : Prop :=
  ∃ K' D' rd' ht' A c, e = .returned (.tuple #[.slice A 512 c, .int .i64 0]) ∧ Own w' w.heap.size (.slice A 512 c) l ∧ 512 ≤ c ∧ PS w' lo gp gd gb gt n ps T gm size K' D' rd' ht' ∧ (pgs K', rd', ht') = stepG size (pgs K, rd, ht) p ∧ Turn w w' lo gp gm K ∧
    ∀ (j : Nat) (f : Fr), K'[j]? = some f → (∃ i : Nat, K[i]? = some f) ∨ w.heap.size ≤ f.g
/-- The same, with the world ahead of the clone. -/
def RetG2 (w : World) (lo gp gd gb gt n : Nat) (ps : List (List UInt8)) (T : List Bool) (gm size : Nat) (K : List Fr) (rd ht p : Nat) (l : List UInt8) (e : Ending) (w' : World) : Prop :=
  ∃ K' D' rd' ht' A c wm, e = .returned (.tuple #[.slice A 512 c, .int .i64 0]) ∧ Own w' wm.heap.size (.slice A 512 c) l ∧ 512 ≤ c ∧ PS wm lo gp gd gb gt n ps T gm size K' D' rd' ht' ∧ (pgs K', rd', ht') = stepG size (pgs K, rd, ht) p ∧ Turn w wm lo gp gm K ∧ Below wm.heap.size wm w' ∧
    ∀ (j : Nat) (f : Fr), K'[j]? = some f → (∃ i : Nat, K[i]? = some f) ∨ w.heap.size ≤ f.g
theorem get_any2 (h : PS w lo gp gd gb gt n ps T gm size K D rd ht) {p : Nat} {q : List UInt8} (hq : ps[p]? = some q) (hn : n ≤ 1000000) (hrd : rd ≤ 1000000) (hht : ht ≤ 1000000) (hk6 : K.length ≤ 1000000) (hlo : lo ≤ w.heap.size) :
    Calls Try.prog 58 #[.pointer (some ⟨gp, 0, none⟩), .int .u32 p] w (RetG2 w lo gp gd gb gt n ps T gm size K rd ht p q) := by
  by_cases hm : p ∈ pgs K
  · obtain ⟨i, hi⟩ := List.getElem?_of_mem hm
    have hi' := hi
    unfold pgs at hi
    rw [List.getElem?_map] at hi
    obtain ⟨f, hf, rfl⟩ := Option.map_eq_some_iff.1 hi
    have hl := (h.by_ i f hf).2
    rw [hq] at hl
    injection hl with hl
    refine (get_hit2 h hf hn hht hlo).mono ?_
    rintro e w' ⟨A, c, D', wm, h1, h2, h3, h4, h5, h6⟩
    refine ⟨_, D', rd, ht + 1, A, c, wm, h1, by rw [hl]; exact h2, h3, h4, ?_, h5, h6, fun j f' hj => .inl ?_⟩
    · unfold stepG
      rw [if_pos hm]
      simp only [Prod.mk.injEq, and_true]
      rw [← erase_idx (pgs K) i f.p h.nodup hi']
      unfold pgs
      rw [List.map_append, map_eraseIdx_]
      rfl
    · rcases Nat.lt_or_ge j (K.eraseIdx i).length with h1 | h1
      · rw [List.getElem?_append_left h1, List.getElem?_eraseIdx] at hj
        split at hj
        · exact ⟨_, hj⟩
        · exact ⟨_, hj⟩
      · rw [List.getElem?_append_right h1] at hj
        have := lt_of_at hj
        have hz : j - (K.eraseIdx i).length = 0 := by simp at this; omega
        rw [hz] at hj
        injection hj with hj
        exact ⟨i, by rw [hf, hj]⟩
  · have hnk : ∀ (i : Nat) (f : Fr), K[i]? = some f → f.p ≠ p := by
      intro i f hf e
      apply hm
      unfold pgs
      rw [← e]
      exact List.mem_map_of_mem (List.mem_of_getElem? hf)
    refine (get_miss2 h hq hnk hn hrd hk6 hlo).mono ?_
    rintro e w' ⟨f, h0, hg, A, c, D', wm, h1, h2, h3, h4, h5, h6⟩
    refine ⟨_, D', rd + 1, ht, A, c, wm, h1, h2, h3, h4, ?_, h5, h6, fun j f' hj => ?_⟩
    · unfold stepG
      rw [if_neg hm]
      simp only [Prod.mk.injEq, and_true]
      unfold pgs roomK
      rw [List.map_append, List.map_singleton, h0, List.length_map]
      split
      · rfl
      · rw [List.map_tail]
    · rcases Nat.lt_or_ge j (roomK size K).length with h1 | h1
      · rw [List.getElem?_append_left h1] at hj
        exact .inl (roomK_sub hj)
      · rw [List.getElem?_append_right h1] at hj
        have := lt_of_at hj
        have hz : j - (roomK size K).length = 0 := by simp at this; omega
        rw [hz] at hj
        injection hj with hj
        exact .inr (by rw [← hj]; exact hg)
theorem get_any (h : PS w lo gp gd gb gt n ps T gm size K D rd ht) {p : Nat} {q : List UInt8} (hq : ps[p]? = some q) (hn : n ≤ 1000000) (hrd : rd ≤ 1000000) (hht : ht ≤ 1000000) (hk6 : K.length ≤ 1000000) (hlo : lo ≤ w.heap.size) :
    Calls Try.prog 58 #[.pointer (some ⟨gp, 0, none⟩), .int .u32 p] w (RetG w lo gp gd gb gt n ps T gm size K rd ht p q) := by
  refine (get_any2 h hq hn hrd hht hk6 hlo).mono ?_
  rintro e w' ⟨K', D', rd', ht', A, c, wm, h1, h2, h3, h4, h5, h6, h7, h8⟩
  exact ⟨K', D', rd', ht', A, c, h1, h2.less h6.size, h3, h4.below h7, h5, h6.trans (Turn.of_below (K := K) h7 (Nat.le_trans hlo h6.size)) (fun j f' hj => .inl ⟨j, hj⟩), h8⟩
theorem get_beyond (h : PS w lo gp gd gb gt n ps T gm size K D rd ht) {p : Nat} (hp : n ≤ p) (hp2 : p ≤ 4294967295) (hn : n ≤ 1000000) :
    Calls Try.prog 58 #[.pointer (some ⟨gp, 0, none⟩), .int .u32 p] w fun e w' => e = .returned (.tuple #[.slice none 0 0, .int .i64 8]) ∧ w = w' := by
  have c0 : w.cell? ⟨gp, 0, none⟩ = some (.pointer (some ⟨gd, 0, none⟩)) := h.rg.pool.cell 0
  have c2 : w.cell? ⟨gp, 2, none⟩ = some (.map (some gm)) := h.rg.pool.cell 2
  obtain ⟨v, pv, hrun, hv⟩ := h.mp.own.look_ok Try.keyU Try.underlying93 (Try.zeroFr w) (show Rp (.pointer none) = some (.nil, []) from rfl) (u32_key p hp2)
  have hnk : ∀ (i : Nat) (f : Fr), K[i]? = some f → f.p ≠ p := fun i f hf e => by have := h.pn hf; omega
  rw [h.mp.hasn p hnk] at hrun
  rw [Maps.atKey_of_not_has (h.mp.hasn p hnk)] at hv
  obtain rfl := Rp_nil hv
  have RD := Lib.hid (read_out h.dk p hp hp2 hn)
  have hpI : (p : Int) ≤ 4294967295 := by omega
  have HP := Lib.hid hpI
  clear hv h hnk hp2 hp hpI
  go_enter Try.func58, Try.ntmps58
  go_wp2_with fail
  refine RD.out.mono ?_
  rintro e w1 ⟨rfl, rfl⟩
  go_wp2
  go_ret2
  exact ⟨rfl, rfl⟩
theorem pages_any (h : PS w lo gp gd gb gt n ps T gm size K D rd ht) : Calls Try.prog 56 #[.pointer (some ⟨gp, 0, none⟩)] w fun e w' => e = .returned (.int .i64 n) ∧ w = w' := by
  have LD := Lib.hid (len_any h.dk.dk)
  have c0 : w.cell? ⟨gp, 0, none⟩ = some (.pointer (some ⟨gd, 0, none⟩)) := h.rg.pool.cell 0
  clear h
  go_enter Try.func56, Try.ntmps56
  go_wp2_with fail
  refine LD.out.mono ?_
  rintro e w1 ⟨rfl, rfl⟩
  go_wp2
  go_ret
  exact ⟨rfl, rfl⟩
/-- What New leaves. -/
def RetPool (w : World) (gd gb gt n : Nat) (ps : List (List UInt8)) (T : List Bool) (size : Nat) (e : Ending) (w' : World) : Prop :=
  ∃ gp gm D, e = .returned (.tuple #[.pointer (some ⟨gp, 0, none⟩), .int .i64 0]) ∧ PS w' w.heap.size gp gd gb gt n ps T gm size [] D 0 0 ∧ Below w.heap.size w w' ∧ w.heap.size ≤ gp ∧ w.heap.size ≤ gm
theorem pnew_any {w : World} (h : DP w gd gb gt n ps T) (hs : 1 ≤ size) (hs2 : size ≤ 9223372036854775807) : Calls Try.prog 14 #[.pointer (some ⟨gd, 0, none⟩), .int .i64 size] w (RetPool w gd gb gt n ps T size) := by
  have hmm := @run_makeMap Try.prog
  have hsI : (1 : Int) ≤ (size : Int) := by omega
  have e0 : decide ((size : Int) < 1) = false := by simp; omega
  have H := Lib.hid (And.intro h hs)
  clear h hs hs2
  go_enter Try.func14, Try.ntmps14
  go_wp2_with fail
  go_region
  go_wp2
  go_ret2
  have hP : Blk ((w.alloc (.map #[] 0)).alloc (.cells #[.pointer (some ⟨gd, 0, none⟩), .int .i64 size, .map (some w.heap.size), .int .u32 0, .slice none 0 0, .pointer (some ⟨w.heap.size + 1, 3, none⟩), .pointer (some ⟨w.heap.size + 1, 3, none⟩), .int .u64 0, .int .u64 0] 104)).drew (w.heap.size + 1) 104 (plC (w.heap.size + 1) [] (.pointer (some ⟨gd, 0, none⟩)) (.int .i64 size) (.map (some w.heap.size)) (.int .u64 (0 : Nat)) (.int .u64 (0 : Nat))) := (Blk.newAt (by simp)).drew
  have hb : Below w.heap.size w ((w.alloc (.map #[] 0)).alloc (.cells #[.pointer (some ⟨gd, 0, none⟩), .int .i64 size, .map (some w.heap.size), .int .u32 0, .slice none 0 0, .pointer (some ⟨w.heap.size + 1, 3, none⟩), .pointer (some ⟨w.heap.size + 1, 3, none⟩), .int .u64 0, .int .u64 0] 104)).drew := (ball (ball (Below.refl _ _) _) _).drew
  have hm := ((World.ownsMap_made w Try.prog 36 Rp).alloc (.cells #[.pointer (some ⟨gd, 0, none⟩), .int .i64 size, .map (some w.heap.size), .int .u32 0, .slice none 0 0, .pointer (some ⟨w.heap.size + 1, 3, none⟩), .pointer (some ⟨w.heap.size + 1, 3, none⟩), .int .u64 0, .int .u64 0] 104)).drew
  have lts := H.out.1.lts
  exact ⟨w.heap.size + 1, w.heap.size, .map [], rfl, ⟨⟨by omega, hP, by simp, by simp⟩, ⟨hm, rfl, fun _ _ => rfl, by simp, by simp⟩, by omega, by simp, by simp, H.out.1.below hb lts.1 lts.2.1 lts.2.2, H.out.2, by simp⟩, hb, by omega, by omega⟩
theorem pnew_no (d : Option Addr) (size : Int) (h : d = none ∨ size < 1) (w : World) : Calls Try.prog 14 #[.pointer d, .int .i64 size] w fun e w' => e = .returned (.tuple #[.pointer none, .int .i64 1]) ∧ w = w' := by
  rcases d with _ | a
  · clear h
    go_enter Try.func14, Try.ntmps14
    go_wp2
    go_ret2
    exact ⟨rfl, rfl⟩
  · have hs : size < 1 := h.resolve_left (by simp)
    have e0 : decide (size < 1) = true := by simp [hs]
    clear h
    go_enter Try.func14, Try.ntmps14
    go_wp2
    go_ret2
    exact ⟨rfl, rfl⟩
end
end
end Go.Proofs.Ytdimkeoncgjegaa
/-
  The disk's Load.
-/
namespace Go.Proofs.Ytdimkeoncgjegaa
section
open Go.RowKit

theorem new_bad (n : Int) (h : n < 1 ∨ 4096 < n) (w : World) : Calls Try.prog 8 #[.int .i64 n] w fun e w' => e = .returned (.tuple #[.pointer none, .int .i64 1]) ∧ w = w' := by
  by_cases h1 : n < 1
  · go_enter Try.func8, Try.ntmps8
    go_wp2
    go_ret2
    exact ⟨rfl, rfl⟩
  · have h2 : 4096 < n := by omega
    go_enter Try.func8, Try.ntmps8
    go_wp2
    go_ret2
    exact ⟨rfl, rfl⟩
theorem Dk.drew_ {w : World} {g gb gt n : Nat} {bs ts : Array Value} (h : Dk w g gb gt n bs ts) : Dk w.drew g gb gt n bs ts := ⟨h.d.drew, h.b.drew, h.t.drew, h.hb, h.ht⟩
theorem newMarks_eq (L : List UInt8) (n : Nat) (h : 1 ≤ n) : newMarks n = tV (marksP L n 0) := by
  obtain ⟨k, rfl⟩ : ∃ k, n = k + 1 := ⟨n - 1, by omega⟩
  unfold newMarks marksP tV tL
  have : madeCells #[.bool false] (k + 1) = ((List.replicate (k + 1) (Value.bool false))).toArray := by
    apply Array.ext
    · simp [size_madeCells]
    · intro j h1 h2
      simp [madeCells, Nat.mod_one]
  rw [this, List.setIfInBounds_toArray]
  congr 1
  simp [marksOf, List.replicate_succ]
theorem dload_bad (A : Option Addr) (m c : Nat) (h : m % 512 ≠ 0 ∨ m = 0) (h2 : m ≤ 1000000) (w : World) :
    Calls Try.prog 18 #[.slice A m c] w fun e w' => e = .returned (.tuple #[.pointer none, .int .i64 1]) ∧ w = w' := by
  by_cases h5 : m % 512 = 0
  · obtain rfl : m = 0 := by omega
    have N := Lib.hid (new_bad 0 (.inl (by omega)))
    clear h h2 h5
    go_enter Try.func18, Try.ntmps18
    go_wp2_with (go_at_call 8; refine (N.out _).mono ?_; rintro e w' ⟨rfl, rfl⟩)
    go_ret2
    exact ⟨rfl, rfl⟩
  · have e1 : ((m : Int) % 512 != 0) = true := by simp; omega
    go_enter Try.func18, Try.ntmps18
    go_wp2
    go_ret2
    exact ⟨rfl, rfl⟩
def RetDP (w : World) (n : Nat) (ps : List (List UInt8)) (T : List Bool) (e : Ending) (w' : World) : Prop :=
  ∃ g gb gt, e = .returned (.tuple #[.pointer (some ⟨g, 0, none⟩), .int .i64 0]) ∧ DP w' g gb gt n ps T ∧ w.heap.size ≤ g ∧ w.heap.size ≤ gb ∧ w.heap.size ≤ gt ∧ Below w.heap.size w w'

set_option maxRecDepth 100000 in
set_option maxHeartbeats 2000000 in
theorem dload_ok (A : Option Addr) (n c B : Nat) (L : List UInt8) (w : World) (hr : Reads w B 1 A (n * 512) (bL L)) (hB : B ≤ w.heap.size) (h1 : 1 ≤ n) (h2 : n ≤ 4096) :
    Calls Try.prog 18 #[.slice A (n * 512) c] w (RetDP w n (pagesOf L n) (marksOf L n)) := by
  have hL := hr.bytes_len
  obtain ⟨ad, _, rfl, hab, _⟩ := hr.byte (k := 0) (by omega)
  have N := Lib.hid fun W => new_any n h1 h2 W
  rw [newMarks_eq L n h1] at N
  go_enter Try.func18, Try.ntmps18
  go_wp2_with fail
  refine (N.out _).mono ?_
  rintro e w1 ⟨g, gb, gt, rfl, hd, k1, k2, k3, hb1⟩
  have hfit : 0 + (bL L).length ≤ (zeroBytes n).size := by rw [bL_len, hL]; simp [zeroBytes, size_madeCells]
  have hsrc : ∀ j v, (bL L)[j]? = some v → w1.cell? (ad.add j) = some v := by
    obtain ⟨ad', e, _, hc⟩ := (hr.below (hb1.mono hB)).2 (by omega)
    injection e with e
    subst e
    exact hc
  have hdb := hd.b
  have hd2 := hd.wrote (new := bV L) (by rw [bV_size, hL])
  have hb2 := below_setRow hb1 k2 (bV L)
  have hne : (splice (zeroBytes n).toList 0 (bL L)).toArray = bV L := by
    rw [splice_all _ _ (by rw [bL_len, hL]; simp [zeroBytes, size_madeCells])]
    rfl
  have c0 : w1.cell? ⟨g, 0, none⟩ = some (.slice (some ⟨gb, 0, none⟩) (n * 512) (n * 512)) := hd.d.cell 0
  have hinfo : (Try.prog.info? 5).map (·.size) = some 1 := by kernel_rfl
  have HI := Lib.hid hinfo; clear hinfo
  have HF := Lib.hid hfit; clear hfit
  have HSR := Lib.hid hsrc; clear hsrc
  have HN := Lib.hid hne; clear hne
  have HD := Lib.hid (And.intro hd2 hb2); clear hd2 hb2 hd
  have HL := Lib.hid hL; clear hL
  obtain ⟨W2, hW2⟩ : ∃ W2, w1.setRow gb (bV L) = W2 := ⟨_, rfl⟩
  rw [hW2] at HD
  have HW := Lib.hid hW2; clear hW2
  have c1 : W2.cell? ⟨g, 1, none⟩ = some (.slice (some ⟨gt, 0, none⟩) n n) := HD.out.1.d.cell 1
  go_wp2_with (refine wpList_copy_own rfl _ _ 59 59 rfl 5 Try.underlying59 HI.out gb 0 (n * 512) (n * 512) ad (n * 512) c rfl rfl (zeroBytes n) 5 hdb (bL L) (by rw [bL_len, HL.out]; simp) HSR.out HF.out (bL_one L) ?_; (show wpList _ _ _ _ _ (w1.setRow gb (splice (zeroBytes n).toList 0 (bL L)).toArray)); rw [HN.out, HW.out])
  have hrw := Lib.hid hr
  clear hr hdb N
  go_loopw [32] (fun v wr => ∃ k : Nat, v = .int .i64 k ∧ k ≤ n ∧ Dk wr g gb gt n (bV L) (tV (marksP L n k)) ∧ Below w.heap.size w wr) (fun v _ => n - (intOf v).toNat)
  case atStart => exact ⟨0, rfl, by omega, HD.out.1, HD.out.2⟩
  case round =>
    obtain ⟨k, rfl, hk, hD, hb⟩ := hrel
    have q0 : (0 : Int) ≤ (k : Int) := by omega
    have d1 : wr.cell? ⟨g, 1, none⟩ = some (.slice (some ⟨gt, 0, none⟩) n n) := hD.d.cell 1
    by_cases hlt : k < n
    · have q1 : (k : Int) < (n : Int) := by omega
      obtain ⟨b, hbk⟩ := marksP_at L n k hlt
      have d2 : wr.cell? ⟨gt, k, none⟩ = some (.bool b) := (hD.t.cell k).trans (tV_at hbk)
      have f2 := hD.t.frozen k
      obtain ⟨ad', x, e, _, hx, d3⟩ := (hrw.out.below (hb.mono hB)).byte (k := k * 512) (by omega)
      injection e with e
      subst e
      have HD2 := Lib.hid (And.intro hD hb)
      clear hD hb hbk
      by_cases hk0 : k = 0
      · have HM : Hid (mark L k = true) := by unfold mark Hid; simp [hk0]
        have hkb : ((k : Int) == 0) = true := by simp; omega
        clear hk0 hx d3
        go_wp2
        go_region
        go_wp2
        go_roundw
        case rel => exact ⟨k + 1, by go_num, by omega, by rw [← marksP_set L n k hlt, HM.out, ← tV_set]; exact (HD2.out.1.mark k _).drew_, (HD2.out.2.setCell (p := ⟨gt, k, none⟩) k3 _).drew⟩
        case measure => simp [intOf]; omega
      · have hkb : ((k : Int) == 0) = false := by simp; omega
        have HM : Hid (mark L k = !decide (x = 0)) := by
          unfold mark Hid
          rw [hx]
          simp [hk0]
        have hne : ((x.toNat : Int) != 0) = !decide (x = 0) := by
          by_cases h : x = 0
          · subst h; rfl
          · have : ¬ x.toNat = 0 := fun e => h (UInt8.toNat_inj.1 e)
            simp [h]; omega
        obtain ⟨mk, hmk⟩ : ∃ mk, (!decide (x = 0)) = mk := ⟨_, rfl⟩
        rw [hmk] at HM hne
        have g1 : (0 : Int) ≤ (k : Int) * 512 := by omega
        have g2 : (k : Int) * 512 < (n : Int) * 512 := by omega
        clear hk0 hx hmk
        go_wp2
        go_region
        go_wp2
        go_roundw
        case rel => exact ⟨k + 1, by go_num, by omega, by rw [← marksP_set L n k hlt, HM.out, ← tV_set]; exact (HD2.out.1.mark k _).drew_, (HD2.out.2.setCell (p := ⟨gt, k, none⟩) k3 _).drew⟩
        case measure => simp [intOf]; omega
    · obtain rfl : k = n := by omega
      go_wp2
      go_ret2
      rw [marksP_end L k h1] at hD
      have hfl := pagesOf_all L k HL.out
      exact ⟨g, gb, gt, rfl, ⟨by rw [hfl]; exact hD, pagesOf_full L k (by rw [HL.out]; exact Nat.le_refl _), pagesOf_len L k⟩, k1, k2, k3, hb⟩
end
end Go.Proofs.Ytdimkeoncgjegaa
/-
  The law's same: a disk that shows the reference's.
-/
namespace Go.Proofs.Ytdimkeoncgjegaa
section
open Go.RowKit

theorem str_app (a b : List UInt8) : str a ++ str b = str (a ++ b) := by
  apply ByteArray.ext
  apply Array.toList_inj.1
  simp [str]
theorem flat_take (ps : List (List UInt8)) (k : Nat) (p : List UInt8) (h : ps[k]? = some p) : (ps.take (k + 1)).flatten = (ps.take k).flatten ++ p := by
  rw [List.take_add_one, h]; simp
end
end Go.Proofs.Ytdimkeoncgjegaa
/-
  Bytes of a string as a row; clear of it; the image that the law DiskLoads makes.
-/
namespace Go.Proofs.Ytdimkeoncgjegaa
section
open Go.RowKit

/-- What '[]byte(s)' makes: a new row that reads as s, whose cells can be written. -/
structure Fresh (w w' : World) (l : List UInt8) (c : Nat) : Prop where
  reads : Reads w' w'.heap.size 1 (some ⟨w.heap.size, 0, none⟩) l.length (bL l)
  below : Below w.heap.size w w'
  size : w'.heap.size = w.heap.size + 1
  isC : ∀ j, j < l.length → (w'.cell? ⟨w.heap.size, j, none⟩).isSome = true
  free : ∀ j, j < l.length → w'.frozen? ⟨w.heap.size, j, none⟩ = false
theorem bytes_of_str (w : World) (l : List UInt8) : ∃ w' c, (convert 9 59 (.string (str l))).run Try.prog w = .ok (.slice (some ⟨w.heap.size, 0, none⟩) l.length c) w' ∧ Fresh w w' l c := by
  refine ⟨Lib.bytesWorld w 5 (str l), grownCap w (str l).size 0 5, ?_, ?_⟩
  · have h := Lib.run_convert_string_bytes (P := Try.prog) w 9 59 5 (str l) Try.underlying9 Try.underlying59 Try.underlying5
    rw [h, str_size]
  · have hcell : ∀ j, j < l.length → (Lib.bytesWorld w 5 (str l)).cell? ⟨w.heap.size, j, none⟩ = some (.int .u8 ((l.getD j 0).toNat : Int)) := by
      intro j hj
      rw [Lib.bytesWorld_cell w _ (str l) j (by rw [str_size]; exact hj), str_data]
    have hz := Lib.bytesWorld_size w 5 (str l)
    refine ⟨⟨by rw [bL_len]; omega, fun _ => ⟨_, rfl, by simp [hz], fun j u hu => ?_⟩⟩, ⟨rfl, rfl, rfl, by omega, fun k hk => Lib.bytesWorld_at_old _ _ _ _ hk⟩, hz, fun j hj => by rw [hcell j hj]; rfl, fun j hj => ?_⟩
    · have hj := lt_of_at hu
      rw [bL_len] at hj
      rw [add_head, hcell j hj, ← hu]
      simp [bL, hj, List.getD]
    · have hs : (str l).size = l.length := str_size l
      simp only [World.frozen?, Lib.bytesWorld_at_new]
      have : (Lib.bytesCells w 5 (str l)).size ≥ l.length := by simp [Lib.bytesCells, str]
      simp; omega
theorem bel_setCells {B g : Nat} {w0 : World} (hB : B ≤ g) : ∀ (vs : List Value) (o : Nat) (wx : World), Below B w0 wx → Below B w0 (wx.setCells g o vs)
  | [], _, _, h => h
  | v :: r, o, _, h => bel_setCells hB r (o + 1) _ (h.setCell hB v)
theorem siz_setCells (g : Nat) : ∀ (vs : List Value) (o : Nat) (w : World), (w.setCells g o vs).heap.size = w.heap.size
  | [], _, _ => rfl
  | v :: r, o, w => (siz_setCells g r (o + 1) _).trans (by simp [World.setCell])
theorem Try.zeroB8 (w : World) : (zeroValue 5).run Try.prog w = .ok (.int .u8 0) w := by kernel_rfl
/-- clear of such a row. -/
theorem clear_row' {w : World} (g o n c : Nat) (hc : ∀ j, j < n → (w.cell? ⟨g, o + j, none⟩).isSome = true) (hf : ∀ j, j < n → w.frozen? ⟨g, o + j, none⟩ = false) :
    ∃ w', (∀ ty, (Builtin.clear_ #[59] ty #[.slice (some ⟨g, o, none⟩) n c]).run Try.prog w = .ok (.tuple #[]) w') ∧ (∀ B w0, B ≤ g → Below B w0 w → Below B w0 w') ∧ (∀ g', g' < w.heap.size → g' ≠ g → w'.heap[g']? = w.heap[g']?) ∧ w'.heap.size = w.heap.size := by
  rcases Nat.eq_zero_or_pos n with h0 | h0
  · subst h0
    refine ⟨w, fun ty => ?_, fun _ _ _ k => k, fun _ _ _ => rfl, rfl⟩
    have ht : Try.prog.underlying 59 = some (.slice 5) := Try.underlying59
    simp [Builtin.clear_, run_underlying ht, Sem.run_pure]
  · refine ⟨w.setCells g o (List.replicate n (.int .u8 0)), fun ty => ?_, fun B w0 hB hb => bel_setCells hB _ _ _ hb, fun g' hg' hne => World.heap_setCells_other w g o _ hg' hne, siz_setCells g _ _ _⟩
    refine Lib.run_clear_slice w _ _ ty _ Try.underlying59 Try.zeroB8 rfl rfl g o n c h0 (fun j hj => hc j hj) (fun j hj => hf j hj)
theorem clear_row {w : World} (g n c : Nat) (hc : ∀ j, j < n → (w.cell? ⟨g, j, none⟩).isSome = true) (hf : ∀ j, j < n → w.frozen? ⟨g, j, none⟩ = false) :
    ∃ w', (∀ ty, (Builtin.clear_ #[59] ty #[.slice (some ⟨g, 0, none⟩) n c]).run Try.prog w = .ok (.tuple #[]) w') ∧ (∀ B w0, B ≤ g → Below B w0 w → Below B w0 w') ∧ (∀ g', g' < w.heap.size → g' ≠ g → w'.heap[g']? = w.heap[g']?) ∧ w'.heap.size = w.heap.size :=
  clear_row' g 0 n c (fun j hj => by rw [Nat.zero_add]; exact hc j hj) (fun j hj => by rw [Nat.zero_add]; exact hf j hj)
theorem Blk.same_ {w w' : World} {g : Nat} {t : TypeId} {cs : Array Value} (h : Blk w g t cs) (e : w'.heap[g]? = w.heap[g]?) : Blk w' g t cs := e.trans h
theorem Reads.same_ {w w' : World} {B size n : Nat} {A : Option Addr} {xs : List Value} (h : Reads w B size A n xs) (e : ∀ ad, A = some ad → ad.block < B → w'.heap[ad.block]? = w.heap[ad.block]?) : Reads w' B size A n xs :=
  ⟨h.1, fun hn => by
    obtain ⟨ad, hA, hb, hc⟩ := h.2 hn
    exact ⟨ad, hA, hb, fun j u hu => (World.cell?_of_block (by rw [block_of_add]; exact e ad hA hb)).trans (hc j u hu)⟩⟩

theorem reads_blk {w : World} {g : Nat} {t : TypeId} {l : List UInt8} (h : Blk w g t (bV l)) {n : Nat} (hn : l.length = n) : Reads w (g + 1) 1 (some ⟨g, 0, none⟩) n (bL l) := by
  refine ⟨by rw [bL_len]; omega, fun _ => ⟨_, rfl, Nat.lt_succ_self _, fun j u hu => ?_⟩⟩
  rw [add_head, h.cell, bV, List.getElem?_toArray]
  exact hu
theorem conv_tail {w : World} {g : Nat} {t : TypeId} {l : List UInt8} (h : Blk w g t (bV l)) (hl : l.length = 512) : (convert 59 9 (.slice (some ⟨g, 1, none⟩) 511 511)).run Try.prog w = .ok (.string (str (l.drop 1))) w := by
  refine conv_reads (P := Try.prog) (B := g + 1) (l := l.drop 1) ⟨by rw [bL_len, List.length_drop, hl], fun _ => ⟨_, rfl, Nat.lt_succ_self _, fun j u hu => ?_⟩⟩ 59 5 9 Try.underlying59 Try.underlying5 Try.underlying9 511
  have e : (⟨g, 1, none⟩ : Addr).add j = ⟨g, 1 + j, none⟩ := by unfold Addr.add; split <;> simp_all
  rw [e, h.cell, bV, List.getElem?_toArray]
  have e2 : bL (l.drop 1) = (bL l).drop 1 := by simp [bL]
  rw [e2, List.getElem?_drop] at hu
  exact hu
/-- The image behind the first k bytes. -/
def fl5 (b : UInt8) : List UInt8 := List.replicate 511 b
theorem fl5_len (b : UInt8) : (fl5 b).length = 511 := List.length_replicate
def imgK (ks : List UInt8) (k : Nat) : List UInt8 := ((List.range k).map fun i => ks.getD i 0 :: fl5 (UInt8.ofNat i)).flatten
theorem imgK_snoc (ks : List UInt8) (k : Nat) : imgK ks (k + 1) = imgK ks k ++ (ks.getD k 0 :: fl5 (UInt8.ofNat k)) := by
  unfold imgK
  rw [List.range_succ, List.map_append, List.flatten_append, List.map_singleton, List.flatten_singleton]
theorem imgK_succ (ks : List UInt8) (k : Nat) (x : UInt8) (h : ks[k]? = some x) : imgK ks (k + 1) = imgK ks k ++ ([x] ++ fl5 (UInt8.ofNat k)) := by
  rw [imgK_snoc, List.getD_eq_getElem?_getD, h]
  rfl
theorem imgK_len (ks : List UInt8) (k : Nat) : (imgK ks k).length = k * 512 := by
  induction k with
  | zero => rfl
  | succ k ih =>
    rw [imgK_snoc, List.length_append, ih, List.length_cons, fl5_len]
    omega
end
end Go.Proofs.Ytdimkeoncgjegaa
