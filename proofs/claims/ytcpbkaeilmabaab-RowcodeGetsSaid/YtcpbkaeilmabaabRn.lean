/-
  Bytes as rows and back; the law RowcodeGets.
-/
import Derived.Test.YtcpbkaeilmabaabRm
import Derived.Lib.SliceRun
import Derived.Deep.Upon
namespace Go.Proofs.Ytcpbkaeilmabaab
open Go.RowKit

theorem enc_dec {m r : List UInt8} {v : Vl} (h : decV m = .ok v r) : mayV v = true ∧ encV v ++ r = m := by
  rcases m with _ | ⟨x, s⟩
  · cases h
  · rw [decV] at h
    split at h
    · rename_i hk
      have hx : x = 0 := UInt8.toNat_inj.1 hk
      subst hx
      cases h
      exact ⟨by decide +kernel, rfl⟩
    · split at h
      · rename_i hk
        have hx : x = 1 := UInt8.toNat_inj.1 hk
        subst hx
        unfold decI at h
        split at h
        · cases h
        · rename_i h8
          cases h
          refine ⟨?_, ?_⟩
          · unfold mayV
            simp only
            rw [if_neg (by omega), if_pos trivial, ByteArray.toList_eq]; rfl
          · have hl : (s.take 8).length = 8 := by rw [List.length_take]; omega
            have hlt := beVal_lt (s.take 8)
            rw [hl] at hlt
            have e : (IntKind.i64.wrap (beVal (s.take 8) : Int) % 18446744073709551616).toNat = beVal (s.take 8) := by
              rw [IntKind.wrap_i64]; omega
            have e2 : be 8 (beVal (s.take 8)) = s.take 8 := by
              have := be_beVal (s.take 8)
              rwa [hl] at this
            unfold encV
            simp only
            rw [if_pos trivial, e, e2, List.cons_append, List.take_append_drop]
            rfl
      · split at h
        · rename_i hk
          have hx : x = 2 := UInt8.toNat_inj.1 hk
          subst hx
          rcases s with _ | ⟨y, t⟩
          · cases h
          · rw [decB] at h
            split at h
            · cases h
            · rename_i hy
              cases h
              have : y.toNat = 0 ∨ y.toNat = 1 := by omega
              rcases this with hy | hy
              · have e : y = 0 := UInt8.toNat_inj.1 hy
                subst e
                exact ⟨by decide +kernel, rfl⟩
              · have e : y = 1 := UInt8.toNat_inj.1 hy
                subst e
                exact ⟨by decide +kernel, rfl⟩
        · split at h
          · rename_i hk
            have hx : x = 3 := UInt8.toNat_inj.1 hk
            subst hx
            rcases s with _ | ⟨y, t⟩
            · cases h
            · rw [decT_cons] at h
              split at h
              · cases h
              · split at h
                · cases h
                · rename_i h48 hlen
                  cases h
                  have hz : (str (t.take y.toNat)).size = y.toNat := by rw [str_size, List.length_take]; omega
                  refine ⟨?_, ?_⟩
                  · unfold mayV
                    simp only
                    rw [if_neg (by omega), if_neg (by omega), if_neg (by omega), if_pos trivial, hz]
                    simp; omega
                  · unfold encV
                    simp only
                    rw [if_neg (by omega), if_neg (by omega), if_pos trivial, hz, str_data]
                    have e : UInt8.ofNat y.toNat = y := by simp
                    rw [e, List.cons_append, List.cons_append, List.take_append_drop]
                    rfl
          · cases h
theorem decN_inv : ∀ (k : Nat) (m : List UInt8) (l : List Vl) (r : List UInt8), decN k m = .ok l r → allMay l = true ∧ l.flatMap encV ++ r = m ∧ l.length = k ∧ ∀ v ∈ l, v.ok
  | 0, m, l, r, h => by
    cases h
    exact ⟨rfl, rfl, rfl, by simp⟩
  | k + 1, m, l, r, h => by
    rcases hd : decV m with e | ⟨v, r'⟩
    · rw [decN_bad hd] at h; cases h
    · rw [decN_ok hd] at h
      rcases hn : decN k r' with e | ⟨l', r2⟩
      · rw [hn] at h; cases h
      · rw [hn] at h
        cases h
        obtain ⟨a, b, c, d⟩ := decN_inv k r' l' _ hn
        obtain ⟨p, q⟩ := enc_dec hd
        refine ⟨?_, ?_, ?_, ?_⟩
        · unfold allMay at a ⊢
          simp [p, a]
        · simp only [List.singleton_append, List.flatMap_cons, List.append_assoc]
          rw [b, q]
        · simp [c]
        · intro u hu
          simp only [List.singleton_append] at hu
          rcases List.mem_cons.1 hu with rfl | hu
          · exact (decV_len hd).2
          · exact d u hu
theorem decN_badne : ∀ (k : Nat) (m : List UInt8) (e : Int), decN k m = .bad e → e = 2 ∨ e = 3 ∨ e = 4 ∨ e = 6
  | 0, m, e, h => by cases h
  | k + 1, m, e, h => by
    rcases hd : decV m with e' | ⟨v, r'⟩
    · rw [decN_bad hd] at h
      cases h
      exact decV_bad hd
    · rw [decN_ok hd] at h
      rcases hn : decN k r' with e' | ⟨l', r2⟩
      · rw [hn] at h
        cases h
        exact decN_badne k r' _ hn
      · rw [hn] at h; cases h
theorem decRow_cases (L : List UInt8) : (∃ e, (decRow L) = ([], e) ∧ (e = 2 ∨ e = 3 ∨ e = 4 ∨ e = 6)) ∨ ∃ l, decRow L = (l, 0) ∧ allMay l = true ∧ encRow l = L ∧ l.length ≤ 255 ∧ ∀ v ∈ l, v.ok := by
  rcases L with _ | ⟨k, s⟩
  · exact .inl ⟨3, rfl, by omega⟩
  · show (∃ e, finN (decN k.toNat s) = ([], e) ∧ _) ∨ ∃ l, finN (decN k.toNat s) = (l, 0) ∧ _
    rcases hn : decN k.toNat s with e | ⟨l, r⟩
    · exact .inl ⟨e, rfl, decN_badne _ _ _ hn⟩
    · rcases r with _ | ⟨y, t⟩
      · obtain ⟨a, b, c, d⟩ := decN_inv _ _ _ _ hn
        have hk := k.toNat_lt
        refine .inr ⟨l, rfl, a, ?_, by omega, d⟩
        unfold encRow
        rw [c]
        rw [List.append_nil] at b
        rw [b]
        congr 1
        simp
      · exact .inl ⟨2, rfl, by omega⟩
theorem enc_size {v : Vl} (h : mayV v = true) : 1 + v.s.size ≤ (encV v).length := by
  obtain ⟨k, i, s⟩ := v
  unfold mayV at h
  unfold encV
  simp only at h ⊢
  have hz : s.toList = [] → s.size = 0 := by
    intro e
    rw [ByteArray.toList_eq] at e
    have : s.data.toList.length = s.size := rfl
    rw [e] at this
    simpa using this.symm
  by_cases h0 : k = 0
  · subst h0
    simp at h
    have := hz h.2
    simp; omega
  · rw [if_neg h0] at h
    by_cases h1 : k = 1
    · subst h1
      simp at h
      have := hz h
      simp [be_len]; omega
    · rw [if_neg h1] at h
      rw [if_neg h1]
      by_cases h2 : k = 2
      · subst h2
        simp at h
        have := hz h.1
        simp; omega
      · rw [if_neg h2] at h
        rw [if_neg h2]
        by_cases h3 : k = 3
        · rw [if_pos h3]
          have : s.data.toList.length = s.size := rfl
          simp only [List.length_cons, this]; omega
        · rw [if_neg h3] at h; cases h
theorem sum_enc : ∀ (l : List Vl), allMay l = true → (l.map fun v => 1 + v.s.size).sum ≤ (l.flatMap encV).length
  | [], _ => by simp
  | v :: t, h => by
    unfold allMay at h
    rw [List.all_cons, Bool.and_eq_true] at h
    have h1 := enc_size h.1
    have h2 := sum_enc t h.2
    simp only [List.map_cons, List.sum_cons, List.flatMap_cons, List.length_append]
    omega
theorem grV_of : ∀ (l : List Vl) (q : Int), q + ((l.map fun v => 1 + v.s.size).sum : Nat) ≤ 5000 → grV q l = false
  | [], _, _ => rfl
  | v :: t, q, h => by
    simp only [List.map_cons, List.sum_cons] at h
    unfold grV
    rw [if_neg (by omega)]
    exact grV_of t _ (by omega)

theorem below_setCells {B g : Nat} {w0 : World} (hB : B ≤ g) : ∀ (vs : List Value) (o : Nat) (w : World), Below B w0 w → Below B w0 (w.setCells g o vs)
  | [], _, _, h => h
  | v :: r, o, w, h => below_setCells hB r (o + 1) _ (h.setCell hB v)
theorem size_setCells (g : Nat) : ∀ (vs : List Value) (o : Nat) (w : World), (w.setCells g o vs).heap.size = w.heap.size
  | [], _, _ => rfl
  | v :: r, o, w => (size_setCells g r (o + 1) _).trans (by simp [World.setCell])
theorem Try.zeroB (w : World) : (zeroValue 5).run Try.prog w = .ok (.int .u8 0) w := by kernel_rfl
/-- clear(own). -/
theorem Own.clear_ {w : World} {base : Nat} {A : Option Addr} {n c : Nat} {l : List UInt8} (h : Own w base (.slice A n c) l) :
    ∃ w', (∀ ty, (Builtin.clear_ #[25] ty #[.slice A n c]).run Try.prog w = .ok (.tuple #[]) w') ∧ (∀ B w0, B ≤ base → Below B w0 w → Below B w0 w') ∧
      (∀ g, g < w.heap.size → (Value.slice A n c).ownBlock ≠ some g → w'.heap[g]? = w.heap[g]?) ∧ w.heap.size ≤ w'.heap.size := by
  rcases Nat.eq_zero_or_pos n with h0 | h0
  · subst h0
    refine ⟨w, fun ty => ?_, fun _ _ _ k => k, fun _ _ _ => rfl, Nat.le_refl _⟩
    have ht : Try.prog.underlying 25 = some (.slice 5) := Try.underlying25
    cases A <;> simp [Builtin.clear_, run_underlying ht, Sem.run_pure]
  · obtain ⟨A', c', e, _⟩ := h.form
    have hn : n = l.length := h.reads.2
    obtain ⟨g, cap, hv, hbase, hlt⟩ := World.ownsRow.form h (by omega)
    have hA : A = some ⟨g, 0, none⟩ := by injection hv
    have hcc : c = cap := by injection hv
    subst hA; subst hcc
    have h' : w.ownsRow base 5 1 (.slice (some ⟨g, 0, none⟩) l.length c) l.length (bL l) := by rw [hn] at h; exact h
    refine ⟨w.setCells g 0 (List.replicate n (.int .u8 0)), fun ty => ?_, ?_, ?_, by rw [size_setCells]; exact Nat.le_refl _⟩
    · refine Lib.run_clear_slice w _ _ ty _ Try.underlying25 Try.zeroB rfl rfl g 0 n c h0 (fun j hj => ?_) (fun j hj => ?_)
      · rw [Nat.zero_add, h'.cellAt j (by omega), List.getElem?_eq_getElem (by rw [bL_len]; omega)]
        rfl
      · rw [Nat.zero_add]
        exact h'.frozenAt j
    · intro B w0 hB hb
      exact below_setCells (by omega) _ _ _ hb
    · intro g' hg' hne
      refine World.heap_setCells_other w g 0 _ hg' (fun e => hne ?_)
      subst e
      rfl
end Go.Proofs.Ytcpbkaeilmabaab
