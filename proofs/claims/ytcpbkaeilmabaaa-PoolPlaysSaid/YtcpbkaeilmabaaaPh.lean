/-
  Pool: Get, whatever is kept; New, Reset, counts, pages.
-/
import Derived.Test.YtcpbkaeilmabaaaPg
namespace Go.Proofs.Ytcpbkaeilmabaaa
set_option linter.unusedSimpArgs false
set_option linter.unusedVariables false
open Go.RowKit Go.Maps

/-- What a page that is got turns: the pages that are kept, reads, hits. -/
def stepG (size : Nat) (s : List Nat × Nat × Nat) (p : Nat) : List Nat × Nat × Nat :=
  if p ∈ s.1 then (s.1.erase p ++ [p], s.2.1, s.2.2 + 1) else ((if s.1.length < size then s.1 else s.1.tail) ++ [p], s.2.1 + 1, s.2.2)
def pgs (K : List Fr) : List Nat := K.map Fr.p
theorem erase_idx : ∀ (P : List Nat) (i p : Nat), P.Nodup → P[i]? = some p → P.eraseIdx i = P.erase p
  | [], i, p, _, h => by simp at h
  | x :: P, 0, p, _, h => by
    simp only [List.getElem?_cons_zero, Option.some.injEq] at h
    subst h
    simp
  | x :: P, i + 1, p, hn, h => by
    simp only [List.getElem?_cons_succ] at h
    have hx : x ≠ p := fun e => by
      subst e
      exact (List.nodup_cons.1 hn).1 (List.mem_of_getElem? h)
    rw [List.eraseIdx_cons_succ, List.erase_cons_tail (by simpa using hx), erase_idx P i p (List.nodup_cons.1 hn).2 h]
theorem map_eraseIdx_ {α β : Type} (f : α → β) : ∀ (l : List α) (i : Nat), (l.eraseIdx i).map f = (l.map f).eraseIdx i
  | [], _ => rfl
  | _ :: _, 0 => rfl
  | x :: l, i + 1 => by simp [map_eraseIdx_ f l i]
section
variable {w : World} {lo gp gd gb gt n : Nat} {ps : List (List UInt8)} {T : List Bool} {gm size : Nat} {K : List Fr} {D : DataW Unit} {rd ht : Nat}
theorem PS.nodup (h : PS w lo gp gd gb gt n ps T gm size K D rd ht) : (pgs K).Nodup := by
  unfold pgs
  unfold List.Nodup
  rw [List.pairwise_iff_getElem]
  intro i j hi hj hij e
  rw [List.length_map] at hi hj
  rw [List.getElem_map, List.getElem_map] at e
  have := h.pg i j _ _ (List.getElem?_eq_getElem hi) (List.getElem?_eq_getElem hj) e
  omega
/-- What Get leaves, whatever was kept. -/
def RetG (w : World) (lo gp gd gb gt n : Nat) (ps : List (List UInt8)) (T : List Bool) (gm size : Nat) (K : List Fr) (rd ht p : Nat) (l : List UInt8) (e : Ending) (w' : World) : Prop :=
  ∃ K' D' rd' ht' A c, e = .returned (.tuple #[.slice A 512 c, .int .i64 0]) ∧ Own w' w.heap.size (.slice A 512 c) l ∧ 512 ≤ c ∧ PS w' lo gp gd gb gt n ps T gm size K' D' rd' ht' ∧ (pgs K', rd', ht') = stepG size (pgs K, rd, ht) p ∧ Turn w w' lo gp gm K ∧
    ∀ (j : Nat) (f : Fr), K'[j]? = some f → (∃ i : Nat, K[i]? = some f) ∨ w.heap.size ≤ f.g
/-- The same, with the world ahead of the clone. -/
def RetG2 (w : World) (lo gp gd gb gt n : Nat) (ps : List (List UInt8)) (T : List Bool) (gm size : Nat) (K : List Fr) (rd ht p : Nat) (l : List UInt8) (e : Ending) (w' : World) : Prop :=
  ∃ K' D' rd' ht' A c wm, e = .returned (.tuple #[.slice A 512 c, .int .i64 0]) ∧ Own w' wm.heap.size (.slice A 512 c) l ∧ 512 ≤ c ∧ PS wm lo gp gd gb gt n ps T gm size K' D' rd' ht' ∧ (pgs K', rd', ht') = stepG size (pgs K, rd, ht) p ∧ Turn w wm lo gp gm K ∧ Below wm.heap.size wm w' ∧
    ∀ (j : Nat) (f : Fr), K'[j]? = some f → (∃ i : Nat, K[i]? = some f) ∨ w.heap.size ≤ f.g
theorem get_any2 (h : PS w lo gp gd gb gt n ps T gm size K D rd ht) {p : Nat} {q : List UInt8} (hq : ps[p]? = some q) (hn : n ≤ 1000000) (hrd : rd ≤ 1000000) (hht : ht ≤ 1000000) (hk6 : K.length ≤ 1000000) (hlo : lo ≤ w.heap.size) :
    Calls Try.prog 39 #[.pointer (some ⟨gp, 0, none⟩), .int .u32 p] w (RetG2 w lo gp gd gb gt n ps T gm size K rd ht p q) := by
  by_cases hm : p ∈ pgs K
  · obtain ⟨i, hi⟩ := List.getElem?_of_mem hm
    have hi' := hi
    unfold pgs at hi
    rw [List.getElem?_map] at hi
    obtain ⟨f, hf, rfl⟩ := Option.map_eq_some_iff.1 hi
    have hl := (h.by_ i f hf).2
    rw [hq] at hl
    injection hl with hl
    refine (get_hit2 h hf hn hht hlo).mono ?_
    rintro e w' ⟨A, c, D', wm, h1, h2, h3, h4, h5, h6⟩
    refine ⟨_, D', rd, ht + 1, A, c, wm, h1, by rw [hl]; exact h2, h3, h4, ?_, h5, h6, fun j f' hj => .inl ?_⟩
    · unfold stepG
      rw [if_pos hm]
      simp only [Prod.mk.injEq, and_true]
      rw [← erase_idx (pgs K) i f.p h.nodup hi']
      unfold pgs
      rw [List.map_append, map_eraseIdx_]
      rfl
    · rcases Nat.lt_or_ge j (K.eraseIdx i).length with h1 | h1
      · rw [List.getElem?_append_left h1, List.getElem?_eraseIdx] at hj
        split at hj
        · exact ⟨_, hj⟩
        · exact ⟨_, hj⟩
      · rw [List.getElem?_append_right h1] at hj
        have := lt_of_at hj
        have hz : j - (K.eraseIdx i).length = 0 := by simp at this; omega
        rw [hz] at hj
        injection hj with hj
        exact ⟨i, by rw [hf, hj]⟩
  · have hnk : ∀ (i : Nat) (f : Fr), K[i]? = some f → f.p ≠ p := by
      intro i f hf e
      apply hm
      unfold pgs
      rw [← e]
      exact List.mem_map_of_mem (List.mem_of_getElem? hf)
    refine (get_miss2 h hq hnk hn hrd hk6 hlo).mono ?_
    rintro e w' ⟨f, h0, hg, A, c, D', wm, h1, h2, h3, h4, h5, h6⟩
    refine ⟨_, D', rd + 1, ht, A, c, wm, h1, h2, h3, h4, ?_, h5, h6, fun j f' hj => ?_⟩
    · unfold stepG
      rw [if_neg hm]
      simp only [Prod.mk.injEq, and_true]
      unfold pgs roomK
      rw [List.map_append, List.map_singleton, h0, List.length_map]
      split
      · rfl
      · rw [List.map_tail]
    · rcases Nat.lt_or_ge j (roomK size K).length with h1 | h1
      · rw [List.getElem?_append_left h1] at hj
        exact .inl (roomK_sub hj)
      · rw [List.getElem?_append_right h1] at hj
        have := lt_of_at hj
        have hz : j - (roomK size K).length = 0 := by simp at this; omega
        rw [hz] at hj
        injection hj with hj
        exact .inr (by rw [← hj]; exact hg)
theorem get_any (h : PS w lo gp gd gb gt n ps T gm size K D rd ht) {p : Nat} {q : List UInt8} (hq : ps[p]? = some q) (hn : n ≤ 1000000) (hrd : rd ≤ 1000000) (hht : ht ≤ 1000000) (hk6 : K.length ≤ 1000000) (hlo : lo ≤ w.heap.size) :
    Calls Try.prog 39 #[.pointer (some ⟨gp, 0, none⟩), .int .u32 p] w (RetG w lo gp gd gb gt n ps T gm size K rd ht p q) := by
  refine (get_any2 h hq hn hrd hht hk6 hlo).mono ?_
  rintro e w' ⟨K', D', rd', ht', A, c, wm, h1, h2, h3, h4, h5, h6, h7, h8⟩
  exact ⟨K', D', rd', ht', A, c, h1, h2.less h6.size, h3, h4.below h7, h5, h6.trans (Turn.of_below (K := K) h7 (Nat.le_trans hlo h6.size)) (fun j f' hj => .inl ⟨j, hj⟩), h8⟩
theorem get_beyond (h : PS w lo gp gd gb gt n ps T gm size K D rd ht) {p : Nat} (hp : n ≤ p) (hp2 : p ≤ 4294967295) (hn : n ≤ 1000000) :
    Calls Try.prog 39 #[.pointer (some ⟨gp, 0, none⟩), .int .u32 p] w fun e w' => e = .returned (.tuple #[.slice none 0 0, .int .i64 8]) ∧ w = w' := by
  have c0 : w.cell? ⟨gp, 0, none⟩ = some (.pointer (some ⟨gd, 0, none⟩)) := h.rg.pool.cell 0
  have c2 : w.cell? ⟨gp, 2, none⟩ = some (.map (some gm)) := h.rg.pool.cell 2
  obtain ⟨v, pv, hrun, hv⟩ := h.mp.own.look_ok Try.keyU Try.underlying112 (Try.zeroFr w) (show Rp (.pointer none) = some (.nil, []) from rfl) (u32_key p hp2)
  have hnk : ∀ (i : Nat) (f : Fr), K[i]? = some f → f.p ≠ p := fun i f hf e => by have := h.pn hf; omega
  rw [h.mp.hasn p hnk] at hrun
  rw [Maps.atKey_of_not_has (h.mp.hasn p hnk)] at hv
  obtain rfl := Rp_nil hv
  have RD := Lib.hid (read_out h.dk p hp hp2 hn)
  have hpI : (p : Int) ≤ 4294967295 := by omega
  have HP := Lib.hid hpI
  clear hv h hnk hp2 hp hpI
  go_enter Try.func39, Try.ntmps39
  go_wp2_with fail
  refine RD.out.mono ?_
  rintro e w1 ⟨rfl, rfl⟩
  go_wp2
  go_ret2
  exact ⟨rfl, rfl⟩
theorem reads_any (h : PS w lo gp gd gb gt n ps T gm size K D rd ht) : Calls Try.prog 44 #[.pointer (some ⟨gp, 0, none⟩)] w fun e w' => e = .returned (.int .u64 rd) ∧ w = w' := by
  have LD := Lib.hid (load64_any gp 7 rd w (h.rg.pool.cell 7))
  clear h
  go_enter Try.func44, Try.ntmps44
  go_wp2_with fail
  refine LD.out.mono ?_
  rintro e w1 ⟨rfl, rfl⟩
  go_wp2
  go_ret
  exact ⟨rfl, rfl⟩
theorem hits_any (h : PS w lo gp gd gb gt n ps T gm size K D rd ht) : Calls Try.prog 45 #[.pointer (some ⟨gp, 0, none⟩)] w fun e w' => e = .returned (.int .u64 ht) ∧ w = w' := by
  have LD := Lib.hid (load64_any gp 8 ht w (h.rg.pool.cell 8))
  clear h
  go_enter Try.func45, Try.ntmps45
  go_wp2_with fail
  refine LD.out.mono ?_
  rintro e w1 ⟨rfl, rfl⟩
  go_wp2
  go_ret
  exact ⟨rfl, rfl⟩
theorem pages_any (h : PS w lo gp gd gb gt n ps T gm size K D rd ht) : Calls Try.prog 42 #[.pointer (some ⟨gp, 0, none⟩)] w fun e w' => e = .returned (.int .i64 n) ∧ w = w' := by
  have LD := Lib.hid (len_any h.dk.dk)
  have c0 : w.cell? ⟨gp, 0, none⟩ = some (.pointer (some ⟨gd, 0, none⟩)) := h.rg.pool.cell 0
  clear h
  go_enter Try.func42, Try.ntmps42
  go_wp2_with fail
  refine LD.out.mono ?_
  rintro e w1 ⟨rfl, rfl⟩
  go_wp2
  go_ret
  exact ⟨rfl, rfl⟩
/-- What New leaves. -/
def RetPool (w : World) (gd gb gt n : Nat) (ps : List (List UInt8)) (T : List Bool) (size : Nat) (e : Ending) (w' : World) : Prop :=
  ∃ gp gm D, e = .returned (.tuple #[.pointer (some ⟨gp, 0, none⟩), .int .i64 0]) ∧ PS w' w.heap.size gp gd gb gt n ps T gm size [] D 0 0 ∧ Below w.heap.size w w' ∧ w.heap.size ≤ gp ∧ w.heap.size ≤ gm
theorem pnew_any {w : World} (h : DP w gd gb gt n ps T) (hs : 1 ≤ size) (hs2 : size ≤ 9223372036854775807) : Calls Try.prog 37 #[.pointer (some ⟨gd, 0, none⟩), .int .i64 size] w (RetPool w gd gb gt n ps T size) := by
  have hmm := @run_makeMap Try.prog
  have hsI : (1 : Int) ≤ (size : Int) := by omega
  have e0 : decide ((size : Int) < 1) = false := by simp; omega
  have H := Lib.hid (And.intro h hs)
  clear h hs hs2
  go_enter Try.func37, Try.ntmps37
  go_wp2_with fail
  go_region
  go_wp2
  go_ret2
  have hP : Blk ((w.alloc (.map #[] 0)).alloc (.cells #[.pointer (some ⟨gd, 0, none⟩), .int .i64 size, .map (some w.heap.size), .int .u32 0, .slice none 0 0, .pointer (some ⟨w.heap.size + 1, 3, none⟩), .pointer (some ⟨w.heap.size + 1, 3, none⟩), .int .u64 0, .int .u64 0] 122)).drew (w.heap.size + 1) 122 (plC (w.heap.size + 1) [] (.pointer (some ⟨gd, 0, none⟩)) (.int .i64 size) (.map (some w.heap.size)) (.int .u64 (0 : Nat)) (.int .u64 (0 : Nat))) := (Blk.newAt (by simp)).drew
  have hb : Below w.heap.size w ((w.alloc (.map #[] 0)).alloc (.cells #[.pointer (some ⟨gd, 0, none⟩), .int .i64 size, .map (some w.heap.size), .int .u32 0, .slice none 0 0, .pointer (some ⟨w.heap.size + 1, 3, none⟩), .pointer (some ⟨w.heap.size + 1, 3, none⟩), .int .u64 0, .int .u64 0] 122)).drew := (ball (ball (Below.refl _ _) _) _).drew
  have hm := ((World.ownsMap_made w Try.prog 34 Rp).alloc (.cells #[.pointer (some ⟨gd, 0, none⟩), .int .i64 size, .map (some w.heap.size), .int .u32 0, .slice none 0 0, .pointer (some ⟨w.heap.size + 1, 3, none⟩), .pointer (some ⟨w.heap.size + 1, 3, none⟩), .int .u64 0, .int .u64 0] 122)).drew
  have lts := H.out.1.lts
  exact ⟨w.heap.size + 1, w.heap.size, .map [], rfl, ⟨⟨by omega, hP, by simp, by simp⟩, ⟨hm, rfl, fun _ _ => rfl, by simp, by simp⟩, by omega, by simp, by simp, H.out.1.below hb lts.1 lts.2.1 lts.2.2, H.out.2, by simp⟩, hb, by omega, by omega⟩
theorem pnew_no (d : Option Addr) (size : Int) (h : d = none ∨ size < 1) (w : World) : Calls Try.prog 37 #[.pointer d, .int .i64 size] w fun e w' => e = .returned (.tuple #[.pointer none, .int .i64 1]) ∧ w = w' := by
  rcases d with _ | a
  · clear h
    go_enter Try.func37, Try.ntmps37
    go_wp2
    go_ret2
    exact ⟨rfl, rfl⟩
  · have hs : size < 1 := h.resolve_left (by simp)
    have e0 : decide (size < 1) = true := by simp [hs]
    clear h
    go_enter Try.func37, Try.ntmps37
    go_wp2
    go_ret2
    exact ⟨rfl, rfl⟩
end
end Go.Proofs.Ytcpbkaeilmabaaa
