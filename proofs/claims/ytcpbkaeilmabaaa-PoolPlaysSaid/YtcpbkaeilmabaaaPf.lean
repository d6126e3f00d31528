/-
  Pool: room is made.
-/
import Derived.Test.YtcpbkaeilmabaaaPe
import Derived.BigQuiet
import Derived.StillTailTactics
namespace Go.Proofs.Ytcpbkaeilmabaaa
set_option linter.unusedSimpArgs false
set_option linter.unusedVariables false
open Go.RowKit Go.Maps

section
variable {w : World} {lo gp gd gb gt n : Nat} {ps : List (List UInt8)} {T : List Bool} {gm size : Nat} {K : List Fr} {D : DataW Unit} {rd ht : Nat}
theorem room_yes (h : PS w lo gp gd gb gt n ps T gm size K D rd ht) (hk : K.length < size) (hk6 : K.length ≤ 1000000) :
    Calls Try.prog 70 #[.pointer (some ⟨gp, 0, none⟩)] w fun e w' => e = .returned (.tuple #[]) ∧ Below w.heap.size w w' := by
  have c2 : w.cell? ⟨gp, 2, none⟩ = some (.map (some gm)) := h.rg.pool.cell 2
  have c1 : w.cell? ⟨gp, 1, none⟩ = some (.int .i64 size) := h.rg.pool.cell 1
  have ln : ∀ (m : Nat) ty, (Builtin.len_ #[112] ty #[.map (some gm)]).run Try.prog (w.drewN m) = .ok (.int .i64 K.length) (w.drewN m) := by
    intro m ty
    have := World.ownsMap.len (w := w.drewN m) (h.mp.own) Try.underlying112 ty
    rwa [h.mp.size] at this
  obtain ⟨N, hN⟩ : ∃ N, K.length = N := ⟨_, rfl⟩
  rw [hN] at ln hk hk6
  have hkI : (N : Int) < (size : Int) := by omega
  clear h hk hN
  go_enter Try.func70, Try.ntmps70
  go_wp2_with fail
  go_quiet (fail)
  go_wp2
  exact bodyPost_ret (v := .tuple #[]) (by simp [results, Try.results70, go_sem]) rfl ⟨rfl, bdr (Below.refl _ _) nq⟩
set_option maxRecDepth 100000 in
theorem room_no {f : Fr} (h : PS w lo gp gd gb gt n ps T gm size (f :: K) D rd ht) (hn : n ≤ 1000000) (hk : (f :: K).length = size) (hk6 : (f :: K).length ≤ 1000000) :
    Calls Try.prog 70 #[.pointer (some ⟨gp, 0, none⟩)] w fun e w' => e = .returned (.tuple #[]) ∧ PS w' lo gp gd gb gt n ps T gm size K (D.del (.int .u32 f.p)) rd ht ∧ Turn w w' lo gp gm (f :: K) := by
  have c2 : w.cell? ⟨gp, 2, none⟩ = some (.map (some gm)) := h.rg.pool.cell 2
  have c1 : w.cell? ⟨gp, 1, none⟩ = some (.int .i64 size) := h.rg.pool.cell 1
  have c6 : w.cell? ⟨gp, 3 + 3, none⟩ = some (.pointer (some ⟨f.g, 0, none⟩)) := h.rg.pool.cell 6
  have hpn := h.pn (i := 0) (f := f) rfl
  have ln : ∀ (m : Nat) ty, (Builtin.len_ #[112] ty #[.map (some gm)]).run Try.prog (w.drewN m) = .ok (.int .i64 size) (w.drewN m) := by
    intro m ty
    have := World.ownsMap.len (w := w.drewN m) (h.mp.own) Try.underlying112 ty
    rwa [h.mp.size, hk] at this
  have hkI : ¬ ((size : Int) < (size : Int)) := by omega
  have LV := Lib.hid fun m => leave_any (i := 0) (f := f) (w := w.drewN m) (h.below (bdr (Below.refl _ _) m)).rg rfl
  have H := Lib.hid h
  have HK := Lib.hid hk
  have c6n : ∀ m, (w.drewN m).cell? ⟨gp, 3 + 3, none⟩ = some (.pointer (some ⟨f.g, 0, none⟩)) := fun _ => c6
  clear hk hk6 h
  go_enter Try.func70, Try.ntmps70
  go_wp2_with fail
  go_quiet (fail)
  clear ln c2 c1
  go_wp2_with fail
  refine (LV.out nq).mono ?_
  rintro e w2 ⟨rfl, rg2, ⟨x, y, hfx⟩, st2⟩
  have H0 := H.out.below (bdr (Below.refl _ _) nq)
  have d2 : w2.cell? ⟨gp, 2, none⟩ = some (.map (some gm)) := rg2.pool.cell 2
  have d0 : w2.cell? ⟨f.g, 0, none⟩ = some (.int .u32 f.p) := hfx.cell 0
  have hgm : w2.heap[gm]? = (w.drewN nq).heap[gm]? := st2.heap gm (fun e => H0.mp.ne_ H0.rg.pool e.symm) (fun j f' hj => fun e => H0.mp.ne_ (H0.rg.fr j f' hj).1 e.symm)
  have m2 := H0.mp.same hgm
  have H2 := Lib.hid (And.intro rg2 (And.intro st2 m2))
  have HH := Lib.hid H0
  clear rg2 st2 hfx hgm m2 c6 c6n H0
  go_wp2_with fail
  go_still_tail 8, (by kernel_rfl)
  refine wpList_delete_own _ rfl (.tmp 23) (.tmp 27) 112 34 rfl 113 Try.keyU Try.underlying112 Rp gm (f :: K).length D rfl H2.out.2.2.own (.int .u32 f.p) (.int .u32 f.p) rfl (u32_key f.p (by omega)) ?_
  intro w3 own3 turn3
  have hgr : w2.drew.grownBy w3 (some gm) := turn3.grown
  have sz3 : w2.heap.size ≤ w3.heap.size := hgr.size
  have hh3 : ∀ g, g ≠ gm → g < w2.heap.size → w3.heap[g]? = w2.heap[g]? := fun g h1 h2 => hgr.block g h2 (fun e => h1 (by injection e))
  have b02 : ∀ {g : Nat} {t : TypeId} {cs : Array Value}, t ≠ 122 → t ≠ 115 → Blk (w.drewN nq) g t cs → Blk w3 g t cs := by
    intro g t cs h1 h2 hb
    have hb2 := stay_blk HH.out.rg.pool HH.out.rg.frs H2.out.2.1 hb h1 h2
    exact (hh3 g (H2.out.2.2.ne_ hb2) hb2.lt).trans hb2
  have rg3 : Rg w3 lo gp K _ _ _ _ _ := H2.out.1.same (hh3 gp (H2.out.2.2.ne_ H2.out.1.pool) H2.out.1.pool.lt) (fun j f' hj => hh3 _ (H2.out.2.2.ne_ (H2.out.1.fr j f' hj).1) (H2.out.1.fr j f' hj).1.lt)
  have m3 : MapR w3 gm K (D.del (.int .u32 f.p)) := H2.out.2.2.drop (fun i f' hi he => by have := H.out.pg (i + 1) 0 f' f hi rfl he; omega) own3
  have lts := HH.out.dk
  have ps3 : PS w3 lo gp gd gb gt n ps T gm size K (D.del (.int .u32 f.p)) rd ht := by
    refine ⟨rg3, m3, H.out.lom, fun j f' hj => ?_, fun a b f1 f2 ha hb he => ?_, ?_, H.out.s1, ?_⟩
    · exact ⟨b02 (by decide) (by decide) (HH.out.by_ (j + 1) f' hj).1, (HH.out.by_ (j + 1) f' hj).2⟩
    · have := H.out.pg (a + 1) (b + 1) f1 f2 ha hb he; omega
    · exact ⟨⟨b02 (by decide) (by decide) HH.out.dk.dk.d, b02 (by decide) (by decide) HH.out.dk.dk.b, b02 (by decide) (by decide) HH.out.dk.dk.t, HH.out.dk.dk.hb, HH.out.dk.dk.ht⟩, HH.out.dk.full, HH.out.dk.hp⟩
    · have := HK.out; rw [List.length_cons] at this; omega
  have tn : Turn w w3 lo gp gm (f :: K) :=
    ⟨by have := H2.out.2.1.size; have h0 : (w.drewN nq).heap.size = w.heap.size := rfl; omega, fun g hg h1 h2 h3 => by
      have h0 : (w.drewN nq).heap.size = w.heap.size := rfl
      have hs := H2.out.2.1.size
      exact (hh3 g h2 (by omega)).trans (H2.out.2.1.heap g h1 h3), fun B w0 hB hb => by
      have h1 : Below B w0 w2 := H2.out.2.1.below B w0 hB (bdr hb nq)
      exact h1.drew.grown hgr (Nat.le_trans hB (Nat.le_trans H.out.lom (Nat.le_of_lt H2.out.2.2.lt))) (fun k hk => by injection hk with hk; rw [← hk]; exact Nat.le_trans hB H.out.lom)⟩
  clear hgr hh3 b02 rg3 m3
  go_wp2
  go_end0
  exact ⟨rfl, ps3, tn⟩
end
end Go.Proofs.Ytcpbkaeilmabaaa
