/-
  Pool: Reset; a nil pool.
-/
import Derived.Test.YtcpbkaeilmabaaaPi
namespace Go.Proofs.Ytcpbkaeilmabaaa
set_option linter.unusedSimpArgs false
set_option linter.unusedVariables false
open Go.RowKit Go.Maps

/-- clear of a map of the call's own. -/
theorem own_clear {w : World} {b n : Nat} {D : DataW Unit} (h : w.ownsMap Try.prog 34 Rp b n D) : ∃ w', (∀ ty, (Builtin.clear_ #[112] ty #[.map (some b)]).run Try.prog w = .ok (.tuple #[]) w') ∧ w'.ownsMap Try.prog 34 Rp b 0 (.map []) ∧ w.mapTurned w' b := by
  obtain ⟨es, clock, hb, F, hs, rfl⟩ := h
  refine ⟨ChangeMaps.setBlock w b (.map #[] clock), fun ty => ?_, ⟨#[], clock, ChangeMaps.heap_setBlock_same hb _, ⟨by simp, MapKept.stamped_empty clock, by simp⟩, Nat.le_refl _, rfl⟩, ⟨es, clock, #[], clock, hb, rfl⟩⟩
  have hu : Try.prog.underlying 112 = some (.map 34 113) := Try.underlying112
  simp [Builtin.clear_, run_underlying hu, MapKept.run_getObj_map hb, MapKept.run_setObj_map _ hb, Result.andThen, ChangeMaps.setBlock]
section
variable {w : World} {lo gp gd gb gt n : Nat} {ps : List (List UInt8)} {T : List Bool} {gm size : Nat} {K : List Fr} {D : DataW Unit} {rd ht : Nat}
set_option maxRecDepth 100000 in
theorem reset_any (h : PS w lo gp gd gb gt n ps T gm size K D rd ht) :
    Calls Try.prog 38 #[.pointer (some ⟨gp, 0, none⟩)] w fun e w' => e = .returned (.tuple #[]) ∧ PS w' lo gp gd gb gt n ps T gm size [] (.map []) 0 0 ∧ Turn w w' lo gp gm K := by
  have c2 : w.cell? ⟨gp, 2, none⟩ = some (.map (some gm)) := h.rg.pool.cell 2
  obtain ⟨w1, hcl, hown, hturn⟩ := own_clear h.mp.own
  have hgr := hturn.grown
  have hh : ∀ g, g ≠ gm → g < w.heap.size → w1.heap[g]? = w.heap[g]? := fun g h1 h2 => hgr.block g h2 (fun e => h1 (by injection e))
  have hP : Blk w1 gp 122 _ := (hh gp (h.mp.ne_ h.rg.pool) h.rg.pool.lt).trans h.rg.pool
  have c5 : w1.cell? ⟨gp, 5, none⟩ = some (.pointer (some (adr gp K K.length))) := hP.cell 5
  have c6 : w1.cell? ⟨gp, 6, none⟩ = some (.pointer (some (adr gp K 1))) := hP.cell 6
  have f5 := hP.frozen 5
  have f6 := hP.frozen 6
  have H := Lib.hid (And.intro h (And.intro hown (And.intro hgr (And.intro hh hP))))
  have Hcl := Lib.hid hcl
  clear h hown hturn hgr hh hP hcl
  go_enter Try.func38, Try.ntmps38
  go_wp2_with fail
  rw [Hcl.out]
  go_wp2_with fail
  go_region
  have P2 : Blk ((w1.setCell ⟨gp, 5, none⟩ (.pointer (some ⟨gp, 3, none⟩))).setCell ⟨gp, 6, none⟩ (.pointer (some ⟨gp, 3, none⟩))).drew gp 122 _ := ((H.out.2.2.2.2.set_ 5 (.pointer (some ⟨gp, 3, none⟩))).set_ 6 (.pointer (some ⟨gp, 3, none⟩))).drew
  have hh2 : ∀ g, g ≠ gp → ((w1.setCell ⟨gp, 5, none⟩ (.pointer (some ⟨gp, 3, none⟩))).setCell ⟨gp, 6, none⟩ (.pointer (some ⟨gp, 3, none⟩))).drew.heap[g]? = w1.heap[g]? := fun g hg => (Below.heap_setCell _ _ _ _ hg).trans (Below.heap_setCell _ _ _ _ hg)
  have b2 : ∀ B w0, B ≤ lo → Below B w0 w → Below B w0 ((w1.setCell ⟨gp, 5, none⟩ (.pointer (some ⟨gp, 3, none⟩))).setCell ⟨gp, 6, none⟩ (.pointer (some ⟨gp, 3, none⟩))).drew := by
    intro B w0 hB hb
    have h1 : Below B w0 w1 := hb.grown H.out.2.2.1 (Nat.le_trans hB (Nat.le_trans H.out.1.lom (Nat.le_of_lt H.out.1.mp.lt))) (fun k hk => by injection hk with hk; rw [← hk]; exact Nat.le_trans hB H.out.1.lom)
    exact ((h1.setCell (show B ≤ (⟨gp, 5, none⟩ : Addr).block from Nat.le_trans hB H.out.1.rg.low) _).setCell (show B ≤ (⟨gp, 6, none⟩ : Addr).block from Nat.le_trans hB H.out.1.rg.low) _).drew
  have hz2 : ((w1.setCell ⟨gp, 5, none⟩ (.pointer (some ⟨gp, 3, none⟩))).setCell ⟨gp, 6, none⟩ (.pointer (some ⟨gp, 3, none⟩))).drew.heap.size = w1.heap.size := by simp [World.setCell, World.drew]
  obtain ⟨W2, hW2⟩ : ∃ W2, ((w1.setCell ⟨gp, 5, none⟩ (.pointer (some ⟨gp, 3, none⟩))).setCell ⟨gp, 6, none⟩ (.pointer (some ⟨gp, 3, none⟩))).drew = W2 := ⟨_, rfl⟩
  rw [hW2] at P2 hh2 b2 hz2 ⊢
  have S1 := Lib.hid (store64_any gp 7 (.int .u64 rd) W2 (P2.cell 7) (P2.frozen 7))
  have P3 := P2.set_ 7 (.int .u64 0)
  have S2 := Lib.hid (store64_any gp 8 (.int .u64 ht) _ (P3.cell 8) (P3.frozen 8))
  have P4 := P3.set_ 8 (.int .u64 0)
  have hh4 : ∀ g, g ≠ gp → ((W2.setCell ⟨gp, 7, none⟩ (.int .u64 0)).setCell ⟨gp, 8, none⟩ (.int .u64 0)).heap[g]? = w1.heap[g]? := fun g hg => (Below.heap_setCell _ _ _ _ hg).trans ((Below.heap_setCell _ _ _ _ hg).trans (hh2 g hg))
  have hz4 : ((W2.setCell ⟨gp, 7, none⟩ (.int .u64 0)).setCell ⟨gp, 8, none⟩ (.int .u64 0)).heap.size = w1.heap.size := by simp [World.setCell]; exact hz2
  have bb : ∀ {g : Nat} {t : TypeId} {cs : Array Value}, t ≠ 122 → Blk w g t cs → Blk ((W2.setCell ⟨gp, 7, none⟩ (.int .u64 0)).setCell ⟨gp, 8, none⟩ (.int .u64 0)) g t cs := fun h1 hb => (hh4 _ (hb.ne_ H.out.1.rg.pool h1)).trans ((H.out.2.2.2.1 _ (H.out.1.mp.ne_ hb) hb.lt).trans hb)
  have dk := H.out.1.dk
  have ps4 : PS ((W2.setCell ⟨gp, 7, none⟩ (.int .u64 0)).setCell ⟨gp, 8, none⟩ (.int .u64 0)) lo gp gd gb gt n ps T gm size [] (.map []) 0 0 := by
    refine ⟨⟨H.out.1.rg.low, P4, by simp, by simp⟩, ?_, H.out.1.lom, by simp, by simp, ⟨⟨bb (by decide) dk.dk.d, bb (by decide) dk.dk.b, bb (by decide) dk.dk.t, dk.dk.hb, dk.dk.ht⟩, dk.full, dk.hp⟩, H.out.1.s1, by simp⟩
    have m0 : MapR w1 gm [] (.map []) := ⟨H.out.2.1, rfl, fun _ _ => rfl, by simp, by simp⟩
    exact m0.same (hh4 gm (fun e => H.out.1.mp.ne_ H.out.1.rg.pool e.symm))
  have tn : Turn w ((W2.setCell ⟨gp, 7, none⟩ (.int .u64 0)).setCell ⟨gp, 8, none⟩ (.int .u64 0)) lo gp gm K :=
    ⟨by rw [hz4]; exact H.out.2.2.1.size, fun g hg h1 h2 h3 => (hh4 g h1).trans (H.out.2.2.2.1 g h2 hg), fun B w0 hB hb => ((b2 B w0 hB hb).setCell (show B ≤ (⟨gp, 7, none⟩ : Addr).block from Nat.le_trans hB H.out.1.rg.low) _).setCell (show B ≤ (⟨gp, 8, none⟩ : Addr).block from Nat.le_trans hB H.out.1.rg.low) _⟩
  have HE := Lib.hid (And.intro ps4 tn)
  clear P2 hh2 b2 hz2 P3 P4 hh4 hz4 bb ps4 tn hW2 dk
  go_wp2_with fail
  refine S1.out.mono ?_
  rintro e w5 ⟨rfl, rfl⟩
  go_wp2_with fail
  refine S2.out.mono ?_
  rintro e w6 ⟨rfl, rfl⟩
  go_wp2
  go_end0
  exact ⟨rfl, HE.out.1, HE.out.2⟩
end
/-! ### a nil pool -/
theorem nget_any (p : Int) (w : World) : Calls Try.prog 39 #[.pointer none, .int .u32 p] w fun e w' => e = .returned (.tuple #[.slice none 0 0, .int .i64 1]) ∧ w = w' := by
  go_enter Try.func39, Try.ntmps39
  go_wp2
  go_ret2
  exact ⟨rfl, rfl⟩
theorem nhead_any (p k : Int) (w : World) : Calls Try.prog 43 #[.pointer none, .int .u32 p, .int .u8 k] w (RetB w (.tuple #[.agg #[.int .u8 0, .int .u16 0, .int .u32 0], .slice none 0 0, .int .i64 1])) := by
  have G := Lib.hid fun W => nget_any p W
  go_enter Try.func43, Try.ntmps43
  go_wp2_with fail
  refine (G.out _).mono ?_
  rintro e w1 ⟨rfl, rfl⟩
  go_wp2
  exact bodyPost_ret (v := .tuple #[.agg #[.int .u8 0, .int .u16 0, .int .u32 0], .slice none 0 0, .int .i64 1]) (by simp only [results, Try.results43]; simp [go_sem]) rfl ⟨rfl, ball (Below.refl _ _) _⟩
theorem nreset_any (w : World) : Calls Try.prog 38 #[.pointer none] w fun e w' => e = .returned (.tuple #[]) ∧ w = w' := by
  go_enter Try.func38, Try.ntmps38
  go_wp2
  exact bodyPost_ret (v := .tuple #[]) (by simp [results, Try.results38, go_sem]) rfl ⟨rfl, rfl⟩
theorem nreads_any (w : World) : Calls Try.prog 44 #[.pointer none] w fun e w' => e = .returned (.int .u64 0) ∧ w = w' := by
  go_enter Try.func44, Try.ntmps44
  go_wp2
  go_ret
  exact ⟨rfl, rfl⟩
theorem nhits_any (w : World) : Calls Try.prog 45 #[.pointer none] w fun e w' => e = .returned (.int .u64 0) ∧ w = w' := by
  go_enter Try.func45, Try.ntmps45
  go_wp2
  go_ret
  exact ⟨rfl, rfl⟩
theorem nkept_any (w : World) : Calls Try.prog 46 #[.pointer none] w fun e w' => e = .returned (.slice none 0 0) ∧ w = w' := by
  go_enter Try.func46, Try.ntmps46
  go_wp2
  go_ret
  exact ⟨rfl, rfl⟩
theorem npages_any (w : World) : Calls Try.prog 42 #[.pointer none] w fun e w' => e = .returned (.int .i64 0) ∧ w = w' := by
  go_enter Try.func42, Try.ntmps42
  go_wp2
  go_ret
  exact ⟨rfl, rfl⟩
set_option maxRecDepth 100000 in
theorem lawNil_any (p size : Int) (w : World) : Calls Try.prog 11 #[.int .u32 p, .int .i64 size] w (RetB w (.bool true)) := by
  go_enter Try.func11, Try.ntmps11
  go_wp2_with fail
  refine (nget_any p _).mono ?_
  rintro e w1 ⟨rfl, rfl⟩
  go_wp2_with fail
  refine (nhead_any p 1 _).mono ?_
  rintro e w2 ⟨rfl, hb2⟩
  have b2 := ball hb2 (.cells #[.int .u8 0, .int .u16 0, .int .u32 0] 57)
  clear hb2
  go_wp2_with fail
  refine (pnew_no none size (.inl rfl) _).mono ?_
  rintro e w3 ⟨rfl, rfl⟩
  go_wp2_with fail
  refine (nreset_any _).mono ?_
  rintro e w4 ⟨rfl, rfl⟩
  go_wp2_with fail
  refine (pfixed_any _).mono ?_
  rintro e w5 ⟨rfl, hb5⟩
  have b5 := bto0 b2 hb5
  clear hb5 b2
  go_wp2_with fail
  refine (nreads_any _).mono ?_
  rintro e w6 ⟨rfl, rfl⟩
  go_wp2_with fail
  refine (nhits_any _).mono ?_
  rintro e w7 ⟨rfl, rfl⟩
  go_wp2_with fail
  refine (nkept_any _).mono ?_
  rintro e w8 ⟨rfl, rfl⟩
  go_wp2_with fail
  refine (npages_any _).mono ?_
  rintro e w9 ⟨rfl, rfl⟩
  go_wp2
  go_ret
  exact ⟨rfl, b5⟩
end Go.Proofs.Ytcpbkaeilmabaaa
