/-
  Inner pages: what was put is read again (plain); the law's same; append of zeros behind pages' numbers.
-/
import Derived.Test.YtgdipljaddodhaaZe
import Derived.Test.YtgdipljaddodhaaZj
import Derived.Lib.AppendZerosOnto
set_option linter.unusedSimpArgs false
set_option linter.unusedVariables false
namespace Go.Proofs.Ytgdipljaddodhaa
open Go.RowKit

theorem ri_app (p : En × Nat) (r : List UInt8) (h : okE p.1) (hc : p.2 < 4294967296) : rdE (inP p ++ r) = p.1 ∧ riC (inP p ++ r) = p.2 ∧ riR (inP p ++ r) = r ∧ riS (inP p ++ r) = false := by
  obtain ⟨e, c⟩ := p
  obtain ⟨h1, h2, h3⟩ := h
  simp only at h1 h2 h3 hc
  have e0 : inP (e, c) ++ r = enL e ++ (be 4 c ++ r) := by unfold inP; rw [List.append_assoc]
  obtain ⟨a, b, d⟩ := rd_app e (be 4 c ++ r) h1 h2 h3
  have v : beVal (be 4 c) = c := by rw [beVal_be]; exact Nat.mod_eq_of_lt (by omega)
  rw [e0]
  refine ⟨a, ?_, ?_, ?_⟩
  · unfold riC; rw [b, tk_app _ _ (be_len 4 c), v]
  · unfold riR; rw [b, dr_app _ _ (be_len 4 c)]
  · unfold riS; rw [b, d]; simp [be_len]
theorem riMany_app : ∀ (ps : List (En × Nat)) (r : List UInt8), (∀ p ∈ ps, okE p.1 ∧ p.2 < 4294967296) → riMany ps.length (inB ps ++ r) = ps ∧ riRest ps.length (inB ps ++ r) = r ∧ riSh ps.length (inB ps ++ r) = false
  | [], r, _ => ⟨rfl, rfl, rfl⟩
  | p :: ps, r, h => by
    obtain ⟨h1, h2⟩ := h p (by simp)
    obtain ⟨a, b, c, d⟩ := ri_app p (inB ps ++ r) h1 h2
    obtain ⟨x, y, z⟩ := riMany_app ps r (fun u hu => h u (by simp [hu]))
    have e0 : inB (p :: ps) ++ r = inP p ++ (inB ps ++ r) := by unfold inB; rw [List.flatMap_cons, List.append_assoc]
    rw [e0, List.length_cons]
    refine ⟨?_, ?_, ?_⟩
    · rw [riMany, a, b, c, x]
    · rw [riRest, c, y]
    · rw [riSh, d, c, z]; rfl
theorem innL_page (ch0 : Nat) (cs : List Nat) (l : List En) (hlen : cs.length = l.length) (hch : ∀ x ∈ ch0 :: cs, x < 4294967296) (hok : ∀ e ∈ l, e.ok) (hm : mayEn l = true) (hf : sumE l + 4 * l.length ≤ 500) (ps : List (En × Nat)) (hps : ps = l.zip cs) (P : List UInt8) (hP : P = innL ch0 ps l.length) :
    hdOk P = true ∧ hdK P = 3 ∧ hdC P = l.length ∧ hdN P = 0 ∧ P.length = 512 ∧ beVal (tk (P.drop 8) 4) = ch0 ∧
    riMany l.length (dr (P.drop 8) 4) = ps ∧ riRest l.length (dr (P.drop 8) 4) = List.replicate (512 - (12 + sumE l + 4 * l.length)) 0 ∧ (decide ((P.drop 8).length < 4) || riSh l.length (dr (P.drop 8) 4)) = false := by
  have hs := mayEn_sizes hm
  have hpl : ps.length = l.length := by rw [hps, List.length_zip]; omega
  have hpf : ps.map Prod.fst = l := by rw [hps]; exact zip_fst (by omega)
  have hoks : ∀ p ∈ ps, okE p.1 ∧ p.2 < 4294967296 := by
    intro p hp
    rw [hps] at hp
    have h1 := (List.of_mem_zip hp).1
    have h2 := (List.of_mem_zip hp).2
    exact ⟨⟨by have := hs p.1 h1; omega, (hok p.1 h1).2.1, (hok p.1 h1).2.2⟩, hch p.2 (List.mem_cons_of_mem _ h2)⟩
  have hll : l.length ≤ 63 := by have := sumE_eq l; omega
  have e0 : P = (headL 3 l.length 0).take 8 ++ (be 4 ch0 ++ (inB ps ++ List.replicate (512 - (12 + sumE l + 4 * l.length)) 0)) := by
    rw [hP]; unfold innL; rw [hpf, hpl]; simp only [List.append_assoc]
  have hX : (be 4 ch0 ++ (inB ps ++ List.replicate (512 - (12 + sumE l + 4 * l.length)) 0)).length = 504 := by
    rw [List.length_append, List.length_append, be_len, inB_len, List.length_replicate, hpf, hpl]; omega
  obtain ⟨a, b, c, d, e⟩ := hd_page 3 l.length 0 _ (by omega) (by omega) hX
  obtain ⟨x, y, z⟩ := riMany_app ps (List.replicate (512 - (12 + sumE l + 4 * l.length)) 0) hoks
  rw [hpl] at x y z
  have v : beVal (be 4 ch0) = ch0 := by rw [beVal_be]; exact Nat.mod_eq_of_lt (hch ch0 (by simp))
  rw [e0]
  refine ⟨a, b, c, d, ?_, ?_, ?_, ?_, ?_⟩
  · rw [List.length_append, hX, List.length_take, headL_len]; rfl
  · rw [e, tk_app _ _ (be_len 4 ch0), v]
  · rw [e, dr_app _ _ (be_len 4 ch0)]; exact x
  · rw [e, dr_app _ _ (be_len 4 ch0)]; exact y
  · rw [e, dr_app _ _ (be_len 4 ch0), hX, z]; rfl

set_option maxHeartbeats 2000000 in
theorem same_any (A : Option Addr) (n c : Nat) (A2 : Option Addr) (c2 : Nat) (l : List Nat) (w : World) (hr : Reads w w.heap.size 1 A n (vN l)) (hr2 : Reads w w.heap.size 1 A2 n (vN l)) (hn : n ≤ 1000000) :
    Calls Try.prog 24 #[.slice A n c, .slice A2 n c2] w (RetB w (.bool true)) := by
  have hnI : (n : Int) ≤ 1000000 := by omega
  go_enter Try.func24, Try.ntmps24
  go_wp2
  go_loopw [13] (fun iv wr => ∃ j : Nat, j ≤ n ∧ iv = .int .i64 j ∧ Below w.heap.size w wr) (fun iv _ => n - (intOf iv).toNat)
  case atStart => exact ⟨0, by omega, rfl, Below.refl _ _⟩
  case round =>
    obtain ⟨j, hj, rfl, hb⟩ := hrel
    have q0 : (0 : Int) ≤ (j : Int) := by omega
    by_cases hlt : j < n
    · have q1 : (j : Int) < (n : Int) := by omega
      obtain ⟨ad, v, rfl, hab, hv, d0⟩ := (hr.below hb).num hlt
      obtain ⟨ad2, v2, rfl, hab2, hv2, d20⟩ := (hr2.below hb).num hlt
      rw [hv] at hv2
      injection hv2 with hv2
      subst hv2
      clear hv
      go_wp2
      go_quiet (fail)
      go_wp2
      go_roundw
      case rel => exact ⟨j + 1, by omega, by go_num, bdr hb _⟩
      case measure => simp [intOf]; omega
    · go_wp2
      go_ret
      exact ⟨rfl, hb⟩

theorem zero_cells32 (k : Nat) : Builtin.zeroCells (Value.int .u32 0).cells k = (vN (List.replicate k 0)).toArray := by
  have hz1 : (Value.int IntKind.u32 0).cells = #[Value.int IntKind.u32 0] := rfl
  rw [hz1]
  apply Array.ext'
  unfold Builtin.zeroCells vN
  apply List.ext_getElem
  · simp
  · intro j h1 h2
    simp [Nat.mod_one]
theorem run_append_zeros32 (w : World) (base : Nat) (ty : TypeId) (v : Value) (n : Nat) (xs : List Value) (hown : w.ownsRow base 22 1 v n xs) (k : Nat) (hk : 0 < k) (hn : n + k ≤ 1000000) (hbase : base ≤ w.heap.size) :
    ∃ v' w', (Builtin.append_ #[44, 3] ty #[v, .int .i64 (k : Int)]).run Try.prog w = .ok v' w' ∧ w'.ownsRow base 22 1 v' (n + k) (xs ++ vN (List.replicate k 0)) ∧ w.grownBy w' v.ownBlock := by
  obtain ⟨i0, hi, hz, hs, hy⟩ := int_info8 Try.infoN
  have ht : Try.prog.underlying 44 = some (.slice 22) := Try.underlying44
  have htn : Try.prog.underlying 3 = some (.int .i64) := Try.underlying3
  have hnl : (vN (List.replicate k 0)).length = k := by rw [vN_len, List.length_replicate]
  have hlen : (xs ++ vN (List.replicate k 0)).length = (n + k) * 1 := by rw [List.length_append, hown.1, hnl]; omega
  have hxl : xs.length = n := by have := hown.1; omega
  have grown : ∀ (old : Nat), old < n + k → ∀ (row : Option Nat),
      (w.drew.alloc (.cells (xs.toArray ++ Builtin.zeroCells (Value.int .u32 0).cells k ++ Builtin.zeroCells (Value.int .u32 0).cells (grownCap w (n + k) old 22 - (n + k))) 22)).ownsRow base 22 1
        (.slice (some ⟨w.heap.size, 0, none⟩) (n + k) (grownCap w (n + k) old 22)) (n + k) (xs ++ vN (List.replicate k 0)) ∧
      w.grownBy (w.drew.alloc (.cells (xs.toArray ++ Builtin.zeroCells (Value.int .u32 0).cells k ++ Builtin.zeroCells (Value.int .u32 0).cells (grownCap w (n + k) old 22 - (n + k))) 22)) row := by
    intro old ho row
    have hge := grownCap_ge w (n + k) old 22
    have hcm : grownCap w (n + k) old 22 ≤ maxLen := grownCap_le_maxLen w (n + k) old 22 (by unfold maxLen; omega)
    have hzs : (Value.int .u32 0 : Value).cells.size = 1 := rfl
    refine ⟨⟨hlen, .inr ⟨w.heap.size, _, _, rfl, hbase, heap_alloc_new w.drew _, hge, hcm, ?_, ?_⟩⟩, ⟨rfl, rfl, rfl, by simp, fun k hk _ => heap_alloc_old w.drew _ hk⟩⟩
    · simp only [Array.size_append, List.size_toArray, size_zeroCells, hzs, hxl]
      omega
    · rw [zero_cells32 k]
      simp only [Array.toList_append, List.append_assoc]
      rw [← List.append_assoc, ← hlen]
      exact List.take_left
  rcases hown.2 with ⟨rfl, hn0⟩ | ⟨g, cap, cur, rfl, hbg, hg, hnc, hcm, hcs, htake⟩
  · subst hn0
    have hx : xs = [] := List.eq_nil_of_length_eq_zero hxl
    subst hx
    have hr := Lib.run_append_grow_zeros (P := Try.prog) w 44 3 ty 22 i0 (.int .u32 0) .i64 .i64 ht htn hi hz none 0 0 [] (by rw [hs]; rfl) k hk (by omega) (by omega) (by omega) (by rw [hy]; omega) (by rw [hy]; exact growslice_fits (by omega) (by omega))
    have hgr := grown 0 (by omega) (Value.ownBlock (.slice none 0 0))
    exact ⟨_, _, hr, hgr.1, hgr.2⟩
  · by_cases hroom : n + k ≤ cap
    · have hst := run_storeCells_at Try.prog g n 22 (vN (List.replicate k 0)) 0 cur w hg (by rw [hnl]; omega) (by intro u hu; obtain ⟨x, _, rfl⟩ := List.mem_map.1 hu; rfl)
      have hw : IntKind.i64.wrap (k : Int) = k := by rw [IntKind.wrap_i64]; omega
      have hneg : ¬ ((k : Int) < 0) := by omega
      have h48 : ¬ (281474976710656 < (k : Int) * 4) := by omega
      have hks : ¬ (k * i0.size = 0) := by rw [hs]; omega
      have hk0 : ¬ k = 0 := by omega
      have hzc := zero_cells32 k
      refine ⟨.slice (some ⟨g, 0, none⟩) (n + k) cap, w.setRow g (cur.toList.take n ++ vN (List.replicate k 0) ++ cur.toList.drop (n + (vN (List.replicate k 0)).length)).toArray, ?_, ⟨hlen, .inr ⟨g, cap, _, rfl, hbg, setRow_heap w g cur _ _ _ hg, hroom, hcm, ?_, ?_⟩⟩, ⟨rfl, rfl, rfl, by simp, fun k hk _ => setRow_other w g k _ (fun e => by simp_all [Value.ownBlock])⟩⟩
      · simp only [Nat.add_zero] at hst
        simp [Builtin.append_, run_underlying ht, run_underlying htn, sizeOf, typeInfo, zeroValue, hi, hz, hs, hy, asInt, asIntOf, hw, hneg, h48, hks, hk0, hroom, hzc, Addr.add_lit, hst]
      · simp only [List.size_toArray, List.length_append, List.length_take, List.length_drop, Array.length_toList, hnl]
        omega
      · have h1 : cur.toList.take n = xs := by have := htake; rwa [Nat.mul_one] at this
        rw [h1, ← hlen]
        exact List.take_left
    · have holds : ∀ j u, xs[j]? = some u → w.cell? ((⟨g, 0, none⟩ : Addr).add j) = some u := hown.cells (g := g) rfl
      have hf := run_firstCells_some (P := Try.prog) w.drew 1 n ⟨g, 0, none⟩ n cap xs (by omega) holds
      have hr := Lib.run_append_grow_zeros (P := Try.prog) w 44 3 ty 22 i0 (.int .u32 0) .i64 .i64 ht htn hi hz (some ⟨g, 0, none⟩) n cap xs (by rw [hs]; exact hf) k hk (by omega) (by omega) (by omega) (by rw [hy]; omega) (by rw [hy]; exact growslice_fits (by omega) (by omega))
      have hgr := grown cap (by omega) (Value.ownBlock (.slice (some ⟨g, 0, none⟩) n cap))
      exact ⟨_, _, hr, hgr.1, hgr.2⟩
section
variable {ops : Array Oper} {rest : List Oper} {o : Oper} {a : Act} {Q : Exit → Act → World → Prop} {w : World}
/-- append(own, make([]uint32, k)...). -/
theorem wpList_appZ32 (hgd : o.guard = none) (sl x : Operand) (ho : o.op = .call { callee := .builtin .append, args := #[sl, x], argTypes := #[44, 3] })
    (base : Nat) (v : Value) (n : Nat) (xs : List Value) (k : Nat) (q : Int) (hs : a.eval sl = v) (hown : w.ownsRow base 22 1 v n xs)
    (hx : a.eval x = .int .i64 q) (hq : q = (k : Int)) (hk : 0 < k) (h63 : n + k ≤ 1000000) (hbase : base ≤ w.heap.size)
    (h : ∀ v' w', w'.ownsRow base 22 1 v' (n + k) (xs ++ vN (List.replicate k 0)) → w.grownBy w' v.ownBlock → wpList Try.prog ops Q rest (a.put o.dst v') w') : wpList Try.prog ops Q (o :: rest) a w := by
  subst hq
  obtain ⟨v', w', hrun, h2, h3⟩ := run_append_zeros32 w base o.type v n xs hown k hk h63 hbase
  refine wpList_plain hgd fun K hK => ?_
  unfold Oper.wp execOp
  simp only [ho, resolve, invoke, builtin, Sem.run_bind, Sem.run_pure, Result.andThen_ok, List.map_toArray, List.map_cons, List.map_nil, hs, hx, hrun]
  exact hK _ _ (h v' w' h2 h3)
end
theorem Try.elemN : Try.prog.elem 44 = 22 := by kernel_rfl
theorem Try.sizeN (W : World) : (Go.sizeOf 22).run Try.prog W = .ok 1 W := by kernel_rfl
theorem Try.sliceN : Try.prog.underlying 44 = some (.slice (Try.prog.elem 44)) := by rw [Try.elemN]; exact Try.underlying44
/-- s[:j] of pages' numbers. -/
theorem cutN_hi {A : Option Addr} {n c : Nat} (j : Nat) (x : Int) (hx : x = j) (h : j ≤ n) (hc : n ≤ c) (W : World) : (Instr.slice 44 (.slice A n c) none (some (.int .i64 x)) none).run Try.prog W = .ok (.slice A j c) W := by
  subst hx
  rw [run_slice_h W 44 A n c Try.sliceN .i64 (j : Int) (by omega) (by omega), Try.elemN, Try.sizeN]
  simp [sliced, Result.andThen]
  cases A <;> simp [Addr.add]
end Go.Proofs.Ytgdipljaddodhaa
