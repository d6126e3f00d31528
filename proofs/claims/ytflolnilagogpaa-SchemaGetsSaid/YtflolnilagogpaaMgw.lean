/-
  Several texts in one: Jm.
-/
import Derived.Test.YtflolnilagogpaaMgv
/-
  The reference's Get: the walk.
-/
namespace Go.Proofs.Ytflolnilagogpaa
section
set_option linter.unusedSimpArgs false
set_option linter.unusedVariables false
open Go.RowKit

/-- What the reference's Get answers. -/
def RetRG (w : World) (bs : List UInt8) (e : Ending) (w' : World) : Prop :=
  ∃ (A1 : Option Addr) (n1 c1 : Nat) (l : List Tb) (A2 : Option Addr) (n2 c2 : Nat) (r : List Ix) (ok : Bool), e = .returned (.tuple #[.agg #[.slice A1 n1 c1, .slice A2 n2 c2], .bool ok]) ∧ BkIn w' A1 n1 c1 l A2 n2 c2 r ∧ Below w.heap.size w w' ∧
    ((ok = true ∧ gBook bs = some (pbk l r, []) ∧ MayB (pbk l r)) ∨ (ok = false ∧ l = [] ∧ r = [] ∧ ¬ ∃ b, gBook bs = some (b, []) ∧ MayB b))
theorem rget_end {W : World} {R : Nat} {tm : Array Value} {Q : Ending → World → Prop} {A1 : Option Addr} {n1 c1 : Nat} {A2 : Option Addr} {n2 c2 : Nat} {ok : Bool} (hR : Blk W R 25 #[.slice A1 n1 c1, .slice A2 n2 c2])
    (h2 : tm[2]? = some (.pointer (some ⟨R, 0, none⟩))) (h3 : tm[3]? = some (.bool ok)) (h : Q (.returned (.tuple #[.agg #[.slice A1 n1 c1, .slice A2 n2 c2], .bool ok])) W) :
    bodyPost Try.prog Try.f16 Q Exit.ret { tmps := tm, defers := [] } W := by
  have q0 : W.cell? ⟨R, 0, none⟩ = _ := hR.cell 0
  have q1 : W.cell? ⟨R, 1, none⟩ = _ := hR.cell 1
  exact bodyPost_ret (v := .tuple #[.agg #[.slice A1 n1 c1, .slice A2 n2 c2], .bool ok]) (by simp [results, Try.results16, go_sem, h2, h3, q0, q1]) rfl h
theorem RetRG.no {w w' : World} {bs : List UInt8} (hb : Below w.heap.size w w') (h : ¬ ∃ b, gBook bs = some (b, []) ∧ MayB b) : RetRG w bs (.returned (.tuple #[.agg #[.slice none 0 0, .slice none 0 0], .bool false])) w' :=
  ⟨none, 0, 0, [], none, 0, 0, [], false, rfl, bk_nil w', hb, .inr ⟨rfl, rfl, rfl, h⟩⟩
set_option maxRecDepth 100000 in
set_option maxHeartbeats 64000000 in
theorem rgetB_any (bs : List UInt8) (w : World) (hlen : bs.length ≤ maxLen) :
    Calls Try.prog 16 #[.string (str bs)] w (RetRG w bs) := by
  obtain ⟨i0, hi0, hz0, hs0, hy0⟩ := int_info8 Try.infoT
  obtain ⟨i1, hi1, hz1, hs1, hy1⟩ := int_info8 Try.infoX
  have hst0 : St bs false := ⟨fun h => (by cases h), hlen⟩
  have N0 := Lib.hid fun W => rs_one bs false W hst0
  have HZ0 : Hid (RG w (w.heap.size + 1 + 1 + 1) (.slice none 0 0) 0 [] (.slice none 0 0) 0 [] bs false (((w.alloc (.cells #[.slice none 0 0, .slice none 0 0] 25)).alloc (.cells #[.string (str bs), .bool false] 70)).alloc (.cells #[.slice none 0 0, .slice none 0 0] 25))) := Lib.hid ⟨((Blk.newAt rfl).alloc _).alloc _, (Blk.newAt (by simp)).alloc _, Blk.newAt (by simp), ⟨rfl, .inl ⟨rfl, rfl⟩⟩, ⟨rfl, .inl ⟨rfl, rfl⟩⟩, fun kk e => (by cases e), fun t ht => (by cases ht), fun t ht => (by cases ht), ball (ball (ball (Below.refl _ _) _) _) _, Nat.le_refl _, by simp⟩
  clear hst0
  go_enter Try.func16, Try.ntmps16
  go_wp2_with fail
  refine (N0.out _).mono ?_
  rintro e w3 ⟨b3, r3, s3, rfl, st3, hl3, hb3⟩
  have P3 := (HZ0.out).call hb3
  have c30 : w3.cell? ⟨w.heap.size + 1, 0, none⟩ = _ := P3.G.cell 0
  have c31 : w3.cell? ⟨w.heap.size + 1, 1, none⟩ = _ := P3.G.cell 1
  have f30 := P3.G.frozen 0
  have f31 := P3.G.frozen 1
  have z3 := P3.T.lt
  have Q3 := P3.setG r3 s3
  have b30 : (0 : Int) ≤ (b3.toNat : Int) := by omega
  have b31 : (b3.toNat : Int) ≤ 255 := by have := b3.toNat_lt; omega
  have H3 := Lib.hid (And.intro hl3 (And.intro Q3 st3))
  clear P3 Q3 hb3 st3 hl3 N0 
  go_wp2
  go_loopw [7] (fun v wr => ∃ (k : Nat) (l : List Tb) (u : Value) (rk : List UInt8) (sk : Bool), k ≤ b3.toNat ∧ v = .int .i64 k ∧ RG w wr.heap.size u k l (.slice none 0 0) 0 [] rk sk wr ∧ l.length = k ∧ St rk sk ∧ Rel (gMany gTab k) r3 s3 (l.map Tb.pt) rk sk) (fun v _ => b3.toNat - (intOf v).toNat)
  case atStart => exact ⟨0, [], _, r3, s3, by omega, rfl, H3.out.2.1.turn rfl, rfl, H3.out.2.2, rel_many_nil _ _ _⟩
  case round =>
    clear c30 c31 f30 f31
    obtain ⟨wo, rfl⟩ : ∃ wo : World, wo = wr := ⟨_, rfl⟩
    obtain ⟨k, l, u, rk, sk, hk, rfl, hq, hcl, hst, hl⟩ := hrel
    have q0 : (0 : Int) ≤ (k : Int) := by omega
    have g0 : wo.cell? ⟨w.heap.size + 1, 0, none⟩ = some (.string (str rk)) := hq.G.cell 0
    have g1 : wo.cell? ⟨w.heap.size + 1, 1, none⟩ = some (.bool sk) := hq.G.cell 1
    have hzo := hq.T.lt
    have HQ := Lib.hid (And.intro hq (And.intro hcl (And.intro hst hl)))
    clear hq hcl hst hl
    by_cases hlt : k < b3.toNat
    · have q1 : (k : Int) < (b3.toNat : Int) := by omega
      have q2 : k < 255 := by omega
      cases sk
      · have CK := Lib.hid fun W => stable_any rk false W HQ.out.2.2.1
        go_wp2_with fail
        refine (CK.out _).mono ?_
        rintro e w4 ⟨q, r4, s4, rfl, hq4, hqA, st4, hl4, hb4⟩
        have P4 := ((HQ.out.1.call hb4).call (ball (Below.refl _ _) (.cells #[.string q.nm, .slice q.A q.n q.c, .int .u32 q.f, .int .i64 q.r, .int .i64 q.p] 44))).call (ball (Below.refl _ _) (.cells #[.string (str r4), .bool s4] 70))
        have c40 : ((w4.alloc (.cells #[.string q.nm, .slice q.A q.n q.c, .int .u32 q.f, .int .i64 q.r, .int .i64 q.p] 44)).alloc (.cells #[.string (str r4), .bool s4] 70)).cell? ⟨w.heap.size + 1, 0, none⟩ = _ := P4.G.cell 0
        have c41 : ((w4.alloc (.cells #[.string q.nm, .slice q.A q.n q.c, .int .u32 q.f, .int .i64 q.r, .int .i64 q.p] 44)).alloc (.cells #[.string (str r4), .bool s4] 70)).cell? ⟨w.heap.size + 1, 1, none⟩ = _ := P4.G.cell 1
        have f40 := P4.G.frozen 0
        have f41 := P4.G.frozen 1
        have PW := HQ.out.1.call hb4
        have z40 := PW.T.lt
        have z41 := PW.sz
        have z42 := PW.lb
        have z43 := HQ.out.1.T.lt
        have z44 := hb4.size
        have P5 := P4.setG r4 s4
        have t5 : ((((w4.alloc (.cells #[.string q.nm, .slice q.A q.n q.c, .int .u32 q.f, .int .i64 q.r, .int .i64 q.p] 44)).alloc (.cells #[.string (str r4), .bool s4] 70)).setCell ⟨w.heap.size + 1, 0, none⟩ (.string (str r4))).setCell ⟨w.heap.size + 1, 1, none⟩ (.bool s4)).cell? ⟨w.heap.size + 1 + 1, 0, none⟩ = some u := P5.T.cell 0
        have B4 := ((((Blk.new w4 44 #[.string q.nm, .slice q.A q.n q.c, .int .u32 q.f, .int .i64 q.r, .int .i64 q.p]).alloc (.cells #[.string (str r4), .bool s4] 70)).far (p := ⟨w.heap.size + 1, 0, none⟩) (by simp; omega) (.string (str r4))).far (p := ⟨w.heap.size + 1, 1, none⟩) (by simp; omega) (.bool s4))
        have m0 : ((((w4.alloc (.cells #[.string q.nm, .slice q.A q.n q.c, .int .u32 q.f, .int .i64 q.r, .int .i64 q.p] 44)).alloc (.cells #[.string (str r4), .bool s4] 70)).setCell ⟨w.heap.size + 1, 0, none⟩ (.string (str r4))).setCell ⟨w.heap.size + 1, 1, none⟩ (.bool s4)).cell? ⟨w4.heap.size, 0, none⟩ = some (.string q.nm) := B4.cell 0
        have m1 : ((((w4.alloc (.cells #[.string q.nm, .slice q.A q.n q.c, .int .u32 q.f, .int .i64 q.r, .int .i64 q.p] 44)).alloc (.cells #[.string (str r4), .bool s4] 70)).setCell ⟨w.heap.size + 1, 0, none⟩ (.string (str r4))).setCell ⟨w.heap.size + 1, 1, none⟩ (.bool s4)).cell? ⟨w4.heap.size, 1, none⟩ = some (.slice q.A q.n q.c) := B4.cell 1
        have m2 : ((((w4.alloc (.cells #[.string q.nm, .slice q.A q.n q.c, .int .u32 q.f, .int .i64 q.r, .int .i64 q.p] 44)).alloc (.cells #[.string (str r4), .bool s4] 70)).setCell ⟨w.heap.size + 1, 0, none⟩ (.string (str r4))).setCell ⟨w.heap.size + 1, 1, none⟩ (.bool s4)).cell? ⟨w4.heap.size, 2, none⟩ = some (.int .u32 q.f) := B4.cell 2
        have m3 : ((((w4.alloc (.cells #[.string q.nm, .slice q.A q.n q.c, .int .u32 q.f, .int .i64 q.r, .int .i64 q.p] 44)).alloc (.cells #[.string (str r4), .bool s4] 70)).setCell ⟨w.heap.size + 1, 0, none⟩ (.string (str r4))).setCell ⟨w.heap.size + 1, 1, none⟩ (.bool s4)).cell? ⟨w4.heap.size, 3, none⟩ = some (.int .i64 q.r) := B4.cell 3
        have m4 : ((((w4.alloc (.cells #[.string q.nm, .slice q.A q.n q.c, .int .u32 q.f, .int .i64 q.r, .int .i64 q.p] 44)).alloc (.cells #[.string (str r4), .bool s4] 70)).setCell ⟨w.heap.size + 1, 0, none⟩ (.string (str r4))).setCell ⟨w.heap.size + 1, 1, none⟩ (.bool s4)).cell? ⟨w4.heap.size, 4, none⟩ = some (.int .i64 q.p) := B4.cell 4
        have hs5 : ((((w4.alloc (.cells #[.string q.nm, .slice q.A q.n q.c, .int .u32 q.f, .int .i64 q.r, .int .i64 q.p] 44)).alloc (.cells #[.string (str r4), .bool s4] 70)).setCell ⟨w.heap.size + 1, 0, none⟩ (.string (str r4))).setCell ⟨w.heap.size + 1, 1, none⟩ (.bool s4)).heap.size = w4.heap.size + 1 + 1 := by simp [World.setCell]
        have hq5 : TbOk ((((w4.alloc (.cells #[.string q.nm, .slice q.A q.n q.c, .int .u32 q.f, .int .i64 q.r, .int .i64 q.p] 44)).alloc (.cells #[.string (str r4), .bool s4] 70)).setCell ⟨w.heap.size + 1, 0, none⟩ (.string (str r4))).setCell ⟨w.heap.size + 1, 1, none⟩ (.bool s4)) ((((w4.alloc (.cells #[.string q.nm, .slice q.A q.n q.c, .int .u32 q.f, .int .i64 q.r, .int .i64 q.p] 44)).alloc (.cells #[.string (str r4), .bool s4] 70)).setCell ⟨w.heap.size + 1, 0, none⟩ (.string (str r4))).setCell ⟨w.heap.size + 1, 1, none⟩ (.bool s4)).heap.size q := hq4.stay (by rw [hs5]; omega) (fun hn ad ha => by
          have h1 := reads_lt hq4.1.2.2.1 hn ad ha
          have h2 := hqA ad ha
          exact (Below.heap_setCell _ _ _ _ (by simp; omega)).trans ((Below.heap_setCell _ _ _ _ (by simp; omega)).trans ((Below.heap_alloc _ _ _ (by simp; omega)).trans (Below.heap_alloc _ _ _ h1))))
        have hqF : 0 < q.n → ∀ ad, q.A = some ad → w.heap.size + 1 + 1 < ad.block ∧ u.ownBlock ≠ some ad.block := fun hn ad ha => by
          have h2 := hqA ad ha
          exact ⟨by omega, fun e => by have := (World.ownsRow.lt HQ.out.1.own1 _ e).2; omega⟩
        have H5 := Lib.hid (And.intro hl4 (And.intro P5 (And.intro st4 (And.intro hq5 hqF))))
        clear P4 P5 PW B4 hb4 st4 hl4 hq5 hqF hq4 hqA CK g0 g1
        go_wp2_with (at_builtin; refine wpList_pushR (news := [.string q.nm, .slice q.A q.n q.c, .int .u32 q.f, .int .i64 q.r, .int .i64 q.p]) rfl (.tmp 39) (.tmp 41) 22 rfl (w.heap.size + 1 + 1 + 1) 44 i0 _ 5 64 Try.underlying22 hi0 hz0 hs0 hy0 rfl (by decide) u k _ (by first | rfl | (simp [Act.eval, Act.put]; done)) H5.out.2.1.own1 rfl _ (by first | rfl | (simp [Act.eval, Act.put]; done)) (by simp [World.setCell]) rfl (by intro u hu; simp only [List.mem_cons, List.not_mem_nil, or_false] at hu; rcases hu with rfl | rfl | rfl | rfl | rfl <;> rfl) (by omega) (by omega) (by simp [World.setCell]; omega) ?_; intro v8 w8 own8 kp8 ob8; obtain ⟨A9, cc9, rfl, hcc9⟩ := own_form own8; have T9 := blk_far_own (World.ownsRow.alloc H5.out.2.1.own1 _) (H5.out.2.1.T.alloc _) kp8 (by omega); have c9 : w8.cell? ⟨w.heap.size + 1 + 1, 0, none⟩ = some u := T9.cell 0; have f9 : w8.frozen? ⟨w.heap.size + 1 + 1, 0, none⟩ = false := T9.frozen 0; have z9 := T9.lt; have H8 := Lib.hid (And.intro own8 (And.intro kp8 ob8)); clear own8 kp8 ob8 T9)
        exact ⟨⟨k + 1, l ++ [q], .slice A9 (k + 1) cc9, r4, s4, by omega, by go_num, H5.out.2.1.pushT H5.out.2.2.2.1 H5.out.2.2.2.2 H8.out.1 H8.out.2.1 H8.out.2.2, by simp [HQ.out.2.1], H5.out.2.2.1, by rw [List.map_append]; exact HQ.out.2.2.2.snoc H5.out.1⟩, by simp [intOf]; omega⟩
      · have HX : Rel (gMany gTab b3.toNat) r3 s3 (l.map Tb.pt) rk true := rel_short HQ.out.2.2.2 hk
        obtain ⟨A1, c1, rfl, hc1⟩ := own_form HQ.out.1.own1
        have HC := Lib.hid (And.intro hc1 HX)
        have N5 := Lib.hid fun W => rs_one rk true W HQ.out.2.2.1
        clear hc1 HX
        obtain ⟨n1, rfl⟩ : ∃ n1 : Nat, n1 = k := ⟨_, rfl⟩
        go_wp2_with fail
        refine (N5.out _).mono ?_
        rintro e w4 ⟨b4, r4, s4, rfl, st4, hl4, hb4⟩
        have P4 := (HQ.out.1).call hb4
        have c40 : w4.cell? ⟨w.heap.size + 1, 0, none⟩ = _ := P4.G.cell 0
        have c41 : w4.cell? ⟨w.heap.size + 1, 1, none⟩ = _ := P4.G.cell 1
        have f40 := P4.G.frozen 0
        have f41 := P4.G.frozen 1
        have z4 := P4.T.lt
        have Q4 := P4.setG r4 s4
        have b40 : (0 : Int) ≤ (b4.toNat : Int) := by omega
        have b41 : (b4.toNat : Int) ≤ 255 := by have := b4.toNat_lt; omega
        have H4 := Lib.hid (And.intro hl4 (And.intro Q4 st4))
        clear P4 Q4 hb4 st4 hl4 N5 g0 g1
        have P7 := H4.out.2.1.turn rfl
        go_wp2
        obtain ⟨WB, hWB⟩ : ∃ WB, ((w4.setCell ⟨w.heap.size + 1, 0, none⟩ (.string (str r4))).setCell ⟨w.heap.size + 1, 1, none⟩ (.bool s4)).heap.size = WB := ⟨_, rfl⟩
        rw [hWB] at P7
        clear hWB
        go_loopw [11] (fun v wr => ∃ (k : Nat) (xs : List Ix) (u : Value) (rk : List UInt8) (sk : Bool), k ≤ b4.toNat ∧ v = .int .i64 k ∧ RG w WB (.slice A1 n1 c1) n1 l u k xs rk sk wr ∧ xs.length = k ∧ St rk sk ∧ Rel (gMany gIdx k) r4 s4 (xs.map Ix.px) rk sk) (fun v _ => b4.toNat - (intOf v).toNat)
        case atStart => exact ⟨0, [], _, r4, s4, by omega, rfl, P7, rfl, H4.out.2.2, rel_many_nil _ _ _⟩
        case round =>
          clear c40 c41 f40 f41 P7
          obtain ⟨wq, rfl⟩ : ∃ wq : World, wq = wo := ⟨_, rfl⟩
          obtain ⟨wo, rfl⟩ : ∃ wo : World, wo = wr := ⟨_, rfl⟩
          obtain ⟨k, xs, u, rk, sk, hk, rfl, hq, hcl, hst, hl⟩ := hrel
          have q0 : (0 : Int) ≤ (k : Int) := by omega
          have g0 : wo.cell? ⟨w.heap.size + 1, 0, none⟩ = some (.string (str rk)) := hq.G.cell 0
          have g1 : wo.cell? ⟨w.heap.size + 1, 1, none⟩ = some (.bool sk) := hq.G.cell 1
          have hzo := hq.T.lt
          have HK := Lib.hid (And.intro hq (And.intro hcl (And.intro hst hl)))
          clear hq hcl hst hl
          by_cases hlt : k < b4.toNat
          · have q1 : (k : Int) < (b4.toNat : Int) := by omega
            have q2 : k < 255 := by omega
            cases sk
            · have H4R := H4
              have HQ := HK
              have CK := Lib.hid fun W => sindex_any rk false W HK.out.2.2.1
              clear H4
              go_wp2_with fail
              refine (CK.out _).mono ?_
              rintro e w4 ⟨q, r4, s4, rfl, hq4, hqA, hqB, st4, hl4, hb4⟩
              have P4 := ((HQ.out.1.call hb4).call (ball (Below.refl _ _) (.cells #[.string q.nm, .int .i64 q.tb, .slice q.A q.n q.c, .int .u32 q.root, .int .i64 q.lv, .int .i64 q.hi, .slice q.B q.m q.e] 49))).call (ball (Below.refl _ _) (.cells #[.string (str r4), .bool s4] 70))
              have c40 : ((w4.alloc (.cells #[.string q.nm, .int .i64 q.tb, .slice q.A q.n q.c, .int .u32 q.root, .int .i64 q.lv, .int .i64 q.hi, .slice q.B q.m q.e] 49)).alloc (.cells #[.string (str r4), .bool s4] 70)).cell? ⟨w.heap.size + 1, 0, none⟩ = _ := P4.G.cell 0
              have c41 : ((w4.alloc (.cells #[.string q.nm, .int .i64 q.tb, .slice q.A q.n q.c, .int .u32 q.root, .int .i64 q.lv, .int .i64 q.hi, .slice q.B q.m q.e] 49)).alloc (.cells #[.string (str r4), .bool s4] 70)).cell? ⟨w.heap.size + 1, 1, none⟩ = _ := P4.G.cell 1
              have f40 := P4.G.frozen 0
              have f41 := P4.G.frozen 1
              have PW := HQ.out.1.call hb4
              have z40 := PW.T.lt
              have z41 := PW.sz
              have z42 := PW.lb
              have z43 := HQ.out.1.T.lt
              have z44 := hb4.size
              have P5 := P4.setG r4 s4
              have t5 : ((((w4.alloc (.cells #[.string q.nm, .int .i64 q.tb, .slice q.A q.n q.c, .int .u32 q.root, .int .i64 q.lv, .int .i64 q.hi, .slice q.B q.m q.e] 49)).alloc (.cells #[.string (str r4), .bool s4] 70)).setCell ⟨w.heap.size + 1, 0, none⟩ (.string (str r4))).setCell ⟨w.heap.size + 1, 1, none⟩ (.bool s4)).cell? ⟨w.heap.size + 1 + 1, 1, none⟩ = some u := P5.T.cell 1
              have B4 := ((((Blk.new w4 49 #[.string q.nm, .int .i64 q.tb, .slice q.A q.n q.c, .int .u32 q.root, .int .i64 q.lv, .int .i64 q.hi, .slice q.B q.m q.e]).alloc (.cells #[.string (str r4), .bool s4] 70)).far (p := ⟨w.heap.size + 1, 0, none⟩) (by simp; omega) (.string (str r4))).far (p := ⟨w.heap.size + 1, 1, none⟩) (by simp; omega) (.bool s4))
              have m0 : ((((w4.alloc (.cells #[.string q.nm, .int .i64 q.tb, .slice q.A q.n q.c, .int .u32 q.root, .int .i64 q.lv, .int .i64 q.hi, .slice q.B q.m q.e] 49)).alloc (.cells #[.string (str r4), .bool s4] 70)).setCell ⟨w.heap.size + 1, 0, none⟩ (.string (str r4))).setCell ⟨w.heap.size + 1, 1, none⟩ (.bool s4)).cell? ⟨w4.heap.size, 0, none⟩ = some (.string q.nm) := B4.cell 0
              have m1 : ((((w4.alloc (.cells #[.string q.nm, .int .i64 q.tb, .slice q.A q.n q.c, .int .u32 q.root, .int .i64 q.lv, .int .i64 q.hi, .slice q.B q.m q.e] 49)).alloc (.cells #[.string (str r4), .bool s4] 70)).setCell ⟨w.heap.size + 1, 0, none⟩ (.string (str r4))).setCell ⟨w.heap.size + 1, 1, none⟩ (.bool s4)).cell? ⟨w4.heap.size, 1, none⟩ = some (.int .i64 q.tb) := B4.cell 1
              have m2 : ((((w4.alloc (.cells #[.string q.nm, .int .i64 q.tb, .slice q.A q.n q.c, .int .u32 q.root, .int .i64 q.lv, .int .i64 q.hi, .slice q.B q.m q.e] 49)).alloc (.cells #[.string (str r4), .bool s4] 70)).setCell ⟨w.heap.size + 1, 0, none⟩ (.string (str r4))).setCell ⟨w.heap.size + 1, 1, none⟩ (.bool s4)).cell? ⟨w4.heap.size, 2, none⟩ = some (.slice q.A q.n q.c) := B4.cell 2
              have m3 : ((((w4.alloc (.cells #[.string q.nm, .int .i64 q.tb, .slice q.A q.n q.c, .int .u32 q.root, .int .i64 q.lv, .int .i64 q.hi, .slice q.B q.m q.e] 49)).alloc (.cells #[.string (str r4), .bool s4] 70)).setCell ⟨w.heap.size + 1, 0, none⟩ (.string (str r4))).setCell ⟨w.heap.size + 1, 1, none⟩ (.bool s4)).cell? ⟨w4.heap.size, 3, none⟩ = some (.int .u32 q.root) := B4.cell 3
              have m4 : ((((w4.alloc (.cells #[.string q.nm, .int .i64 q.tb, .slice q.A q.n q.c, .int .u32 q.root, .int .i64 q.lv, .int .i64 q.hi, .slice q.B q.m q.e] 49)).alloc (.cells #[.string (str r4), .bool s4] 70)).setCell ⟨w.heap.size + 1, 0, none⟩ (.string (str r4))).setCell ⟨w.heap.size + 1, 1, none⟩ (.bool s4)).cell? ⟨w4.heap.size, 4, none⟩ = some (.int .i64 q.lv) := B4.cell 4
              have m5 : ((((w4.alloc (.cells #[.string q.nm, .int .i64 q.tb, .slice q.A q.n q.c, .int .u32 q.root, .int .i64 q.lv, .int .i64 q.hi, .slice q.B q.m q.e] 49)).alloc (.cells #[.string (str r4), .bool s4] 70)).setCell ⟨w.heap.size + 1, 0, none⟩ (.string (str r4))).setCell ⟨w.heap.size + 1, 1, none⟩ (.bool s4)).cell? ⟨w4.heap.size, 5, none⟩ = some (.int .i64 q.hi) := B4.cell 5
              have m6 : ((((w4.alloc (.cells #[.string q.nm, .int .i64 q.tb, .slice q.A q.n q.c, .int .u32 q.root, .int .i64 q.lv, .int .i64 q.hi, .slice q.B q.m q.e] 49)).alloc (.cells #[.string (str r4), .bool s4] 70)).setCell ⟨w.heap.size + 1, 0, none⟩ (.string (str r4))).setCell ⟨w.heap.size + 1, 1, none⟩ (.bool s4)).cell? ⟨w4.heap.size, 6, none⟩ = some (.slice q.B q.m q.e) := B4.cell 6
              have hs5 : ((((w4.alloc (.cells #[.string q.nm, .int .i64 q.tb, .slice q.A q.n q.c, .int .u32 q.root, .int .i64 q.lv, .int .i64 q.hi, .slice q.B q.m q.e] 49)).alloc (.cells #[.string (str r4), .bool s4] 70)).setCell ⟨w.heap.size + 1, 0, none⟩ (.string (str r4))).setCell ⟨w.heap.size + 1, 1, none⟩ (.bool s4)).heap.size = w4.heap.size + 1 + 1 := by simp [World.setCell]
              have hq5 : IxIn ((((w4.alloc (.cells #[.string q.nm, .int .i64 q.tb, .slice q.A q.n q.c, .int .u32 q.root, .int .i64 q.lv, .int .i64 q.hi, .slice q.B q.m q.e] 49)).alloc (.cells #[.string (str r4), .bool s4] 70)).setCell ⟨w.heap.size + 1, 0, none⟩ (.string (str r4))).setCell ⟨w.heap.size + 1, 1, none⟩ (.bool s4)) ((((w4.alloc (.cells #[.string q.nm, .int .i64 q.tb, .slice q.A q.n q.c, .int .u32 q.root, .int .i64 q.lv, .int .i64 q.hi, .slice q.B q.m q.e] 49)).alloc (.cells #[.string (str r4), .bool s4] 70)).setCell ⟨w.heap.size + 1, 0, none⟩ (.string (str r4))).setCell ⟨w.heap.size + 1, 1, none⟩ (.bool s4)).heap.size q := hq4.stay (by rw [hs5]; omega) (fun hn ad ha => by
                have h1 := reads_lt hq4.2.1 hn ad ha
                have h2 := hqA ad ha
                exact (Below.heap_setCell _ _ _ _ (by simp; omega)).trans ((Below.heap_setCell _ _ _ _ (by simp; omega)).trans ((Below.heap_alloc _ _ _ (by simp; omega)).trans (Below.heap_alloc _ _ _ h1)))) (fun hn ad ha => by
                have h1 := reads_lt hq4.2.2.1 hn ad ha
                have h2 := hqB ad ha
                exact (Below.heap_setCell _ _ _ _ (by simp; omega)).trans ((Below.heap_setCell _ _ _ _ (by simp; omega)).trans ((Below.heap_alloc _ _ _ (by simp; omega)).trans (Below.heap_alloc _ _ _ h1))))
              have hu1 := fun b e => (World.ownsRow.lt HQ.out.1.own1 b e).2
              have hu2 := fun b e => (World.ownsRow.lt HQ.out.1.own2 b e).2
              have hqF : (0 < q.n → ∀ ad, q.A = some ad → w.heap.size + 1 + 1 < ad.block ∧ (Value.slice A1 n1 c1).ownBlock ≠ some ad.block ∧ u.ownBlock ≠ some ad.block) ∧ (0 < q.m → ∀ ad, q.B = some ad → w.heap.size + 1 + 1 < ad.block ∧ (Value.slice A1 n1 c1).ownBlock ≠ some ad.block ∧ u.ownBlock ≠ some ad.block) :=
                ⟨fun hn ad ha => ⟨by have := hqA ad ha; omega, fun e => by have := hu1 _ e; have := hqA ad ha; omega, fun e => by have := hu2 _ e; have := hqA ad ha; omega⟩, fun hn ad ha => ⟨by have := hqB ad ha; omega, fun e => by have := hu1 _ e; have := hqB ad ha; omega, fun e => by have := hu2 _ e; have := hqB ad ha; omega⟩⟩
              have H5 := Lib.hid (And.intro hl4 (And.intro P5 (And.intro st4 (And.intro hq5 hqF))))
              clear P4 P5 PW B4 hb4 st4 hl4 hq5 hqF hq4 hqA hqB hu1 hu2 CK g0 g1
              go_wp2_with (at_builtin; refine wpList_pushR (news := [.string q.nm, .int .i64 q.tb, .slice q.A q.n q.c, .int .u32 q.root, .int .i64 q.lv, .int .i64 q.hi, .slice q.B q.m q.e]) rfl (.tmp 66) (.tmp 68) 23 rfl WB 49 i1 _ 7 96 Try.underlying23 hi1 hz1 hs1 hy1 rfl (by decide) u k _ (by first | rfl | (simp [Act.eval, Act.put]; done)) H5.out.2.1.own2 rfl _ (by first | rfl | (simp [Act.eval, Act.put]; done)) (by simp [World.setCell]) rfl (by intro u hu; simp only [List.mem_cons, List.not_mem_nil, or_false] at hu; rcases hu with rfl | rfl | rfl | rfl | rfl | rfl | rfl <;> rfl) (by omega) (by omega) (by simp [World.setCell]; omega) ?_; intro v8 w8 own8 kp8 ob8; obtain ⟨A9, cc9, rfl, hcc9⟩ := own_form own8; have T9 := blk_far_own (World.ownsRow.alloc H5.out.2.1.own2 _) (H5.out.2.1.T.alloc _) kp8 (by omega); have c9 : w8.cell? ⟨w.heap.size + 1 + 1, 1, none⟩ = some u := T9.cell 1; have f9 : w8.frozen? ⟨w.heap.size + 1 + 1, 1, none⟩ = false := T9.frozen 1; have z9 := T9.lt; have H8 := Lib.hid (And.intro own8 (And.intro kp8 ob8)); clear own8 kp8 ob8 T9)
              exact ⟨⟨k + 1, xs ++ [q], .slice A9 (k + 1) cc9, r4, s4, by omega, by go_num, H5.out.2.1.pushX H5.out.2.2.2.1 H5.out.2.2.2.2.1 H5.out.2.2.2.2.2 H8.out.1 H8.out.2.1 H8.out.2.2, by simp [HQ.out.2.1], H5.out.2.2.1, by rw [List.map_append]; exact HQ.out.2.2.2.snoc H5.out.1⟩, by simp [intOf]; omega⟩
            · have HY : Rel (gMany gIdx b4.toNat) r4 s4 (xs.map Ix.px) rk true := rel_short HK.out.2.2.2 hk
              obtain ⟨A2, c2, rfl, hc2⟩ := own_form HK.out.1.own2
              have PK := HK.out.1
              have BK : BkIn wo A1 n1 c1 l A2 k c2 xs := ⟨Reads.of_own PK.own1, fun t ht => (PK.hl t ht).1, Reads.of_own PK.own2, fun x hx => (PK.hx x hx).1, ⟨HC.out.1, own_cap PK.own1⟩, ⟨hc2, own_cap PK.own2⟩⟩
              have HF : Hid ((∀ ad, A1 = some ad → w.heap.size < ad.block) ∧ (∀ t ∈ l, 0 < t.n → ∀ ad, t.A = some ad → w.heap.size < ad.block) ∧ (∀ ad, A2 = some ad → w.heap.size < ad.block) ∧ ∀ x ∈ xs, (0 < x.n → ∀ ad, x.A = some ad → w.heap.size < ad.block) ∧ (0 < x.m → ∀ ad, x.B = some ad → w.heap.size < ad.block)) := Lib.hid ⟨fun ad ha => by have := own_addr PK.own1 ad ha; omega, fun t ht hn ad ha => by have := ((PK.hl t ht).2 hn ad ha).1; omega, fun ad ha => by have := own_addr PK.own2 ad ha; have := PK.lb; omega, fun x hx => ⟨fun hn ad ha => by have := ((PK.hx x hx).2.1 hn ad ha).1; omega, fun hn ad ha => by have := ((PK.hx x hx).2.2 hn ad ha).1; omega⟩⟩
              have hBook := rel_book H3.out.1 HC.out.2 H4.out.1 HY
              have hB := fun hs => hBook.2 hs
              have t0 : wo.cell? ⟨w.heap.size + 1 + 1, 0, none⟩ = some (.slice A1 n1 c1) := PK.T.cell 0
              have t1 : wo.cell? ⟨w.heap.size + 1 + 1, 1, none⟩ = some (.slice A2 k c2) := PK.T.cell 1
              have y0 : wo.cell? ⟨w.heap.size, 0, none⟩ = some (.slice none 0 0) := PK.Z.cell 0
              have y1 : wo.cell? ⟨w.heap.size, 1, none⟩ = some (.slice none 0 0) := PK.Z.cell 1
              have v0 := PK.Z.frozen 0
              have v1 := PK.Z.frozen 1
              have zR := PK.Z.lt
              have hrz : ((str rk).size : Int) = (rk.length : Int) := by rw [str_size]
              have HZ := Lib.hid (And.intro PK.b (And.intro PK.Z (And.intro PK.T BK)))
              have NO : (true = true ∨ 0 < rk.length) → ¬ ∃ b, gBook bs = some (b, []) ∧ MayB b := fun h => by
                rintro ⟨b, e1, _⟩
                rcases hB rfl with ⟨e2, e3⟩ | ⟨e2, e3⟩
                · rw [e3] at e1; cases e1
                · rw [e3] at e1
                  injection e1 with e1
                  injection e1 with _ e4
                  rcases h with h | h
                  · rw [h] at e2; cases e2
                  · rw [e4] at h; simp at h
              have HNO := Lib.hid NO
              have HBO := Lib.hid (hB rfl)
              clear NO hB hBook PK BK HY
              clear HBO hrz
              go_wp2
              exact rget_end ((HZ.out.2.1.set_ 0 (.slice none 0 0)).set_ 1 (.slice none 0 0)) (by simp) (by simp) (RetRG.no ((HZ.out.1.setCell (Nat.le_refl _) _).setCell (Nat.le_refl _) _) (HNO.out (.inl (by first | rfl | trivial))))
          · have hkb : k = b4.toNat := by omega
            have e9 : decide ((k : Int) < (b4.toNat : Int)) = false := by simp; omega
            have HY : Rel (gMany gIdx b4.toNat) r4 s4 (xs.map Ix.px) rk sk := hkb ▸ HK.out.2.2.2
            clear hkb
            obtain ⟨A2, c2, rfl, hc2⟩ := own_form HK.out.1.own2
            have PK := HK.out.1
            have BK : BkIn wo A1 n1 c1 l A2 k c2 xs := ⟨Reads.of_own PK.own1, fun t ht => (PK.hl t ht).1, Reads.of_own PK.own2, fun x hx => (PK.hx x hx).1, ⟨HC.out.1, own_cap PK.own1⟩, ⟨hc2, own_cap PK.own2⟩⟩
            have HF : Hid ((∀ ad, A1 = some ad → w.heap.size < ad.block) ∧ (∀ t ∈ l, 0 < t.n → ∀ ad, t.A = some ad → w.heap.size < ad.block) ∧ (∀ ad, A2 = some ad → w.heap.size < ad.block) ∧ ∀ x ∈ xs, (0 < x.n → ∀ ad, x.A = some ad → w.heap.size < ad.block) ∧ (0 < x.m → ∀ ad, x.B = some ad → w.heap.size < ad.block)) := Lib.hid ⟨fun ad ha => by have := own_addr PK.own1 ad ha; omega, fun t ht hn ad ha => by have := ((PK.hl t ht).2 hn ad ha).1; omega, fun ad ha => by have := own_addr PK.own2 ad ha; have := PK.lb; omega, fun x hx => ⟨fun hn ad ha => by have := ((PK.hx x hx).2.1 hn ad ha).1; omega, fun hn ad ha => by have := ((PK.hx x hx).2.2 hn ad ha).1; omega⟩⟩
            have hBook := rel_book H3.out.1 HC.out.2 H4.out.1 HY
            have hB := fun hs => hBook.2 hs
            have t0 : wo.cell? ⟨w.heap.size + 1 + 1, 0, none⟩ = some (.slice A1 n1 c1) := PK.T.cell 0
            have t1 : wo.cell? ⟨w.heap.size + 1 + 1, 1, none⟩ = some (.slice A2 k c2) := PK.T.cell 1
            have y0 : wo.cell? ⟨w.heap.size, 0, none⟩ = some (.slice none 0 0) := PK.Z.cell 0
            have y1 : wo.cell? ⟨w.heap.size, 1, none⟩ = some (.slice none 0 0) := PK.Z.cell 1
            have v0 := PK.Z.frozen 0
            have v1 := PK.Z.frozen 1
            have zR := PK.Z.lt
            have hrz : ((str rk).size : Int) = (rk.length : Int) := by rw [str_size]
            have HZ := Lib.hid (And.intro PK.b (And.intro PK.Z (And.intro PK.T BK)))
            have NO : (sk = true ∨ 0 < rk.length) → ¬ ∃ b, gBook bs = some (b, []) ∧ MayB b := fun h => by
              rintro ⟨b, e1, _⟩
              rcases hB rfl with ⟨e2, e3⟩ | ⟨e2, e3⟩
              · rw [e3] at e1; cases e1
              · rw [e3] at e1
                injection e1 with e1
                injection e1 with _ e4
                rcases h with h | h
                · rw [h] at e2; cases e2
                · rw [e4] at h; simp at h
            have HNO := Lib.hid NO
            have HBO := Lib.hid (hB rfl)
            clear NO hB hBook PK BK HY
            cases sk with
            | true =>
              clear HBO hrz
              go_wp2
              exact rget_end ((HZ.out.2.1.set_ 0 (.slice none 0 0)).set_ 1 (.slice none 0 0)) (by simp) (by simp) (RetRG.no ((HZ.out.1.setCell (Nat.le_refl _) _).setCell (Nat.le_refl _) _) (HNO.out (.inl (by first | rfl | trivial))))
            | false =>
              by_cases hm : 0 < rk.length
              · have hmI : (0 : Int) < ((str rk).size : Int) := by omega
                have hmN : 0 < (str rk).size := by omega
                clear HBO hrz
                go_wp2
                exact rget_end ((HZ.out.2.1.set_ 0 (.slice none 0 0)).set_ 1 (.slice none 0 0)) (by simp) (by simp) (RetRG.no ((HZ.out.1.setCell (Nat.le_refl _) _).setCell (Nat.le_refl _) _) (HNO.out (.inr hm)))
              · have hrk : rk = [] := List.eq_nil_of_length_eq_zero (by omega)
                have hgb : gBook bs = some (pbk l xs, []) := by
                  rcases HBO.out with ⟨e2, e3⟩ | ⟨e2, e3⟩
                  · cases e2
                  · rw [e3, hrk]; rfl
                have hmI : ((str rk).size : Int) = 0 := by omega
                have hmN : (str rk).size = 0 := by omega
                have HGB := Lib.hid hgb
                have MY := Lib.hid (rmay_any A1 n1 c1 l A2 k c2 xs wo HZ.out.2.2.2)
                clear hrk hgb HBO HNO hm
                go_wp2_with fail
                refine MY.out.mono ?_
                rintro e w7 ⟨b, rfl, hbm, hb7⟩
                have R7 := HZ.out.2.1.below hb7 zR
                have T7 := HZ.out.2.2.1.below hb7 HZ.out.2.2.1.lt
                have p0 : w7.cell? ⟨w.heap.size, 0, none⟩ = some (.slice none 0 0) := R7.cell 0
                have p1 : w7.cell? ⟨w.heap.size, 1, none⟩ = some (.slice none 0 0) := R7.cell 1
                have h0 := R7.frozen 0
                have h1 := R7.frozen 1
                have o0 : w7.cell? ⟨w.heap.size + 1 + 1, 0, none⟩ = some (.slice A1 n1 c1) := T7.cell 0
                have o1 : w7.cell? ⟨w.heap.size + 1 + 1, 1, none⟩ = some (.slice A2 k c2) := T7.cell 1
                have z7 := R7.lt
                have H7 := Lib.hid (And.intro hbm (And.intro (HZ.out.1.trans (hb7.mono (by omega))) (And.intro R7 (HZ.out.2.2.2.below hb7))))
                clear hbm hb7 R7 T7 y0 y1 g0 g1 v0 v1 t0 t1
                cases b with
                | false =>
                  go_wp2
                  refine rget_end ((H7.out.2.2.1.set_ 0 (.slice none 0 0)).set_ 1 (.slice none 0 0)) (by simp) (by simp) (RetRG.no ((H7.out.2.1.setCell (Nat.le_refl _) _).setCell (Nat.le_refl _) _) ?_)
                  rintro ⟨b, e1, e2⟩
                  rw [HGB.out] at e1
                  injection e1 with e1
                  injection e1 with e1 _
                  subst e1
                  exact absurd (H7.out.1.2 e2) (by decide)
                | true =>
                  go_wp2
                  refine rget_end ((H7.out.2.2.1.set_ 0 (.slice A1 n1 c1)).set_ 1 (.slice A2 k c2)) (by simp) (by simp) ⟨A1, n1, c1, l, A2, k, c2, xs, true, rfl, ?_, (H7.out.2.1.setCell (Nat.le_refl _) _).setCell (Nat.le_refl _) _, .inl ⟨rfl, HGB.out, H7.out.1.1 (by first | rfl | trivial)⟩⟩
                  exact (H7.out.2.2.2.far HF.out.1 HF.out.2.1 HF.out.2.2.1 HF.out.2.2.2 0 _).far HF.out.1 HF.out.2.1 HF.out.2.2.1 HF.out.2.2.2 1 _
    · have hkb : k = b3.toNat := by omega
      have e9 : decide ((k : Int) < (b3.toNat : Int)) = false := by simp; omega
      have HX : Rel (gMany gTab b3.toNat) r3 s3 (l.map Tb.pt) rk sk := hkb ▸ HQ.out.2.2.2
      clear hkb
      obtain ⟨A1, c1, rfl, hc1⟩ := own_form HQ.out.1.own1
      have HC := Lib.hid (And.intro hc1 HX)
      have N5 := Lib.hid fun W => rs_one rk sk W HQ.out.2.2.1
      clear hc1 HX
      obtain ⟨n1, rfl⟩ : ∃ n1 : Nat, n1 = k := ⟨_, rfl⟩
      go_wp2_with fail
      refine (N5.out _).mono ?_
      rintro e w4 ⟨b4, r4, s4, rfl, st4, hl4, hb4⟩
      have P4 := (HQ.out.1).call hb4
      have c40 : w4.cell? ⟨w.heap.size + 1, 0, none⟩ = _ := P4.G.cell 0
      have c41 : w4.cell? ⟨w.heap.size + 1, 1, none⟩ = _ := P4.G.cell 1
      have f40 := P4.G.frozen 0
      have f41 := P4.G.frozen 1
      have z4 := P4.T.lt
      have Q4 := P4.setG r4 s4
      have b40 : (0 : Int) ≤ (b4.toNat : Int) := by omega
      have b41 : (b4.toNat : Int) ≤ 255 := by have := b4.toNat_lt; omega
      have H4 := Lib.hid (And.intro hl4 (And.intro Q4 st4))
      clear P4 Q4 hb4 st4 hl4 N5 g0 g1
      have P7 := H4.out.2.1.turn rfl
      go_wp2
      obtain ⟨WB, hWB⟩ : ∃ WB, ((w4.setCell ⟨w.heap.size + 1, 0, none⟩ (.string (str r4))).setCell ⟨w.heap.size + 1, 1, none⟩ (.bool s4)).heap.size = WB := ⟨_, rfl⟩
      rw [hWB] at P7
      clear hWB
      go_loopw [11] (fun v wr => ∃ (k : Nat) (xs : List Ix) (u : Value) (rk : List UInt8) (sk : Bool), k ≤ b4.toNat ∧ v = .int .i64 k ∧ RG w WB (.slice A1 n1 c1) n1 l u k xs rk sk wr ∧ xs.length = k ∧ St rk sk ∧ Rel (gMany gIdx k) r4 s4 (xs.map Ix.px) rk sk) (fun v _ => b4.toNat - (intOf v).toNat)
      case atStart => exact ⟨0, [], _, r4, s4, by omega, rfl, P7, rfl, H4.out.2.2, rel_many_nil _ _ _⟩
      case round =>
        clear c40 c41 f40 f41 P7
        obtain ⟨wq, rfl⟩ : ∃ wq : World, wq = wo := ⟨_, rfl⟩
        obtain ⟨wo, rfl⟩ : ∃ wo : World, wo = wr := ⟨_, rfl⟩
        obtain ⟨k, xs, u, rk, sk, hk, rfl, hq, hcl, hst, hl⟩ := hrel
        have q0 : (0 : Int) ≤ (k : Int) := by omega
        have g0 : wo.cell? ⟨w.heap.size + 1, 0, none⟩ = some (.string (str rk)) := hq.G.cell 0
        have g1 : wo.cell? ⟨w.heap.size + 1, 1, none⟩ = some (.bool sk) := hq.G.cell 1
        have hzo := hq.T.lt
        have HK := Lib.hid (And.intro hq (And.intro hcl (And.intro hst hl)))
        clear hq hcl hst hl
        by_cases hlt : k < b4.toNat
        · have q1 : (k : Int) < (b4.toNat : Int) := by omega
          have q2 : k < 255 := by omega
          cases sk
          · have H4R := H4
            have HQ := HK
            have CK := Lib.hid fun W => sindex_any rk false W HK.out.2.2.1
            clear H4
            go_wp2_with fail
            refine (CK.out _).mono ?_
            rintro e w4 ⟨q, r4, s4, rfl, hq4, hqA, hqB, st4, hl4, hb4⟩
            have P4 := ((HQ.out.1.call hb4).call (ball (Below.refl _ _) (.cells #[.string q.nm, .int .i64 q.tb, .slice q.A q.n q.c, .int .u32 q.root, .int .i64 q.lv, .int .i64 q.hi, .slice q.B q.m q.e] 49))).call (ball (Below.refl _ _) (.cells #[.string (str r4), .bool s4] 70))
            have c40 : ((w4.alloc (.cells #[.string q.nm, .int .i64 q.tb, .slice q.A q.n q.c, .int .u32 q.root, .int .i64 q.lv, .int .i64 q.hi, .slice q.B q.m q.e] 49)).alloc (.cells #[.string (str r4), .bool s4] 70)).cell? ⟨w.heap.size + 1, 0, none⟩ = _ := P4.G.cell 0
            have c41 : ((w4.alloc (.cells #[.string q.nm, .int .i64 q.tb, .slice q.A q.n q.c, .int .u32 q.root, .int .i64 q.lv, .int .i64 q.hi, .slice q.B q.m q.e] 49)).alloc (.cells #[.string (str r4), .bool s4] 70)).cell? ⟨w.heap.size + 1, 1, none⟩ = _ := P4.G.cell 1
            have f40 := P4.G.frozen 0
            have f41 := P4.G.frozen 1
            have PW := HQ.out.1.call hb4
            have z40 := PW.T.lt
            have z41 := PW.sz
            have z42 := PW.lb
            have z43 := HQ.out.1.T.lt
            have z44 := hb4.size
            have P5 := P4.setG r4 s4
            have t5 : ((((w4.alloc (.cells #[.string q.nm, .int .i64 q.tb, .slice q.A q.n q.c, .int .u32 q.root, .int .i64 q.lv, .int .i64 q.hi, .slice q.B q.m q.e] 49)).alloc (.cells #[.string (str r4), .bool s4] 70)).setCell ⟨w.heap.size + 1, 0, none⟩ (.string (str r4))).setCell ⟨w.heap.size + 1, 1, none⟩ (.bool s4)).cell? ⟨w.heap.size + 1 + 1, 1, none⟩ = some u := P5.T.cell 1
            have B4 := ((((Blk.new w4 49 #[.string q.nm, .int .i64 q.tb, .slice q.A q.n q.c, .int .u32 q.root, .int .i64 q.lv, .int .i64 q.hi, .slice q.B q.m q.e]).alloc (.cells #[.string (str r4), .bool s4] 70)).far (p := ⟨w.heap.size + 1, 0, none⟩) (by simp; omega) (.string (str r4))).far (p := ⟨w.heap.size + 1, 1, none⟩) (by simp; omega) (.bool s4))
            have m0 : ((((w4.alloc (.cells #[.string q.nm, .int .i64 q.tb, .slice q.A q.n q.c, .int .u32 q.root, .int .i64 q.lv, .int .i64 q.hi, .slice q.B q.m q.e] 49)).alloc (.cells #[.string (str r4), .bool s4] 70)).setCell ⟨w.heap.size + 1, 0, none⟩ (.string (str r4))).setCell ⟨w.heap.size + 1, 1, none⟩ (.bool s4)).cell? ⟨w4.heap.size, 0, none⟩ = some (.string q.nm) := B4.cell 0
            have m1 : ((((w4.alloc (.cells #[.string q.nm, .int .i64 q.tb, .slice q.A q.n q.c, .int .u32 q.root, .int .i64 q.lv, .int .i64 q.hi, .slice q.B q.m q.e] 49)).alloc (.cells #[.string (str r4), .bool s4] 70)).setCell ⟨w.heap.size + 1, 0, none⟩ (.string (str r4))).setCell ⟨w.heap.size + 1, 1, none⟩ (.bool s4)).cell? ⟨w4.heap.size, 1, none⟩ = some (.int .i64 q.tb) := B4.cell 1
            have m2 : ((((w4.alloc (.cells #[.string q.nm, .int .i64 q.tb, .slice q.A q.n q.c, .int .u32 q.root, .int .i64 q.lv, .int .i64 q.hi, .slice q.B q.m q.e] 49)).alloc (.cells #[.string (str r4), .bool s4] 70)).setCell ⟨w.heap.size + 1, 0, none⟩ (.string (str r4))).setCell ⟨w.heap.size + 1, 1, none⟩ (.bool s4)).cell? ⟨w4.heap.size, 2, none⟩ = some (.slice q.A q.n q.c) := B4.cell 2
            have m3 : ((((w4.alloc (.cells #[.string q.nm, .int .i64 q.tb, .slice q.A q.n q.c, .int .u32 q.root, .int .i64 q.lv, .int .i64 q.hi, .slice q.B q.m q.e] 49)).alloc (.cells #[.string (str r4), .bool s4] 70)).setCell ⟨w.heap.size + 1, 0, none⟩ (.string (str r4))).setCell ⟨w.heap.size + 1, 1, none⟩ (.bool s4)).cell? ⟨w4.heap.size, 3, none⟩ = some (.int .u32 q.root) := B4.cell 3
            have m4 : ((((w4.alloc (.cells #[.string q.nm, .int .i64 q.tb, .slice q.A q.n q.c, .int .u32 q.root, .int .i64 q.lv, .int .i64 q.hi, .slice q.B q.m q.e] 49)).alloc (.cells #[.string (str r4), .bool s4] 70)).setCell ⟨w.heap.size + 1, 0, none⟩ (.string (str r4))).setCell ⟨w.heap.size + 1, 1, none⟩ (.bool s4)).cell? ⟨w4.heap.size, 4, none⟩ = some (.int .i64 q.lv) := B4.cell 4
            have m5 : ((((w4.alloc (.cells #[.string q.nm, .int .i64 q.tb, .slice q.A q.n q.c, .int .u32 q.root, .int .i64 q.lv, .int .i64 q.hi, .slice q.B q.m q.e] 49)).alloc (.cells #[.string (str r4), .bool s4] 70)).setCell ⟨w.heap.size + 1, 0, none⟩ (.string (str r4))).setCell ⟨w.heap.size + 1, 1, none⟩ (.bool s4)).cell? ⟨w4.heap.size, 5, none⟩ = some (.int .i64 q.hi) := B4.cell 5
            have m6 : ((((w4.alloc (.cells #[.string q.nm, .int .i64 q.tb, .slice q.A q.n q.c, .int .u32 q.root, .int .i64 q.lv, .int .i64 q.hi, .slice q.B q.m q.e] 49)).alloc (.cells #[.string (str r4), .bool s4] 70)).setCell ⟨w.heap.size + 1, 0, none⟩ (.string (str r4))).setCell ⟨w.heap.size + 1, 1, none⟩ (.bool s4)).cell? ⟨w4.heap.size, 6, none⟩ = some (.slice q.B q.m q.e) := B4.cell 6
            have hs5 : ((((w4.alloc (.cells #[.string q.nm, .int .i64 q.tb, .slice q.A q.n q.c, .int .u32 q.root, .int .i64 q.lv, .int .i64 q.hi, .slice q.B q.m q.e] 49)).alloc (.cells #[.string (str r4), .bool s4] 70)).setCell ⟨w.heap.size + 1, 0, none⟩ (.string (str r4))).setCell ⟨w.heap.size + 1, 1, none⟩ (.bool s4)).heap.size = w4.heap.size + 1 + 1 := by simp [World.setCell]
            have hq5 : IxIn ((((w4.alloc (.cells #[.string q.nm, .int .i64 q.tb, .slice q.A q.n q.c, .int .u32 q.root, .int .i64 q.lv, .int .i64 q.hi, .slice q.B q.m q.e] 49)).alloc (.cells #[.string (str r4), .bool s4] 70)).setCell ⟨w.heap.size + 1, 0, none⟩ (.string (str r4))).setCell ⟨w.heap.size + 1, 1, none⟩ (.bool s4)) ((((w4.alloc (.cells #[.string q.nm, .int .i64 q.tb, .slice q.A q.n q.c, .int .u32 q.root, .int .i64 q.lv, .int .i64 q.hi, .slice q.B q.m q.e] 49)).alloc (.cells #[.string (str r4), .bool s4] 70)).setCell ⟨w.heap.size + 1, 0, none⟩ (.string (str r4))).setCell ⟨w.heap.size + 1, 1, none⟩ (.bool s4)).heap.size q := hq4.stay (by rw [hs5]; omega) (fun hn ad ha => by
              have h1 := reads_lt hq4.2.1 hn ad ha
              have h2 := hqA ad ha
              exact (Below.heap_setCell _ _ _ _ (by simp; omega)).trans ((Below.heap_setCell _ _ _ _ (by simp; omega)).trans ((Below.heap_alloc _ _ _ (by simp; omega)).trans (Below.heap_alloc _ _ _ h1)))) (fun hn ad ha => by
              have h1 := reads_lt hq4.2.2.1 hn ad ha
              have h2 := hqB ad ha
              exact (Below.heap_setCell _ _ _ _ (by simp; omega)).trans ((Below.heap_setCell _ _ _ _ (by simp; omega)).trans ((Below.heap_alloc _ _ _ (by simp; omega)).trans (Below.heap_alloc _ _ _ h1))))
            have hu1 := fun b e => (World.ownsRow.lt HQ.out.1.own1 b e).2
            have hu2 := fun b e => (World.ownsRow.lt HQ.out.1.own2 b e).2
            have hqF : (0 < q.n → ∀ ad, q.A = some ad → w.heap.size + 1 + 1 < ad.block ∧ (Value.slice A1 n1 c1).ownBlock ≠ some ad.block ∧ u.ownBlock ≠ some ad.block) ∧ (0 < q.m → ∀ ad, q.B = some ad → w.heap.size + 1 + 1 < ad.block ∧ (Value.slice A1 n1 c1).ownBlock ≠ some ad.block ∧ u.ownBlock ≠ some ad.block) :=
              ⟨fun hn ad ha => ⟨by have := hqA ad ha; omega, fun e => by have := hu1 _ e; have := hqA ad ha; omega, fun e => by have := hu2 _ e; have := hqA ad ha; omega⟩, fun hn ad ha => ⟨by have := hqB ad ha; omega, fun e => by have := hu1 _ e; have := hqB ad ha; omega, fun e => by have := hu2 _ e; have := hqB ad ha; omega⟩⟩
            have H5 := Lib.hid (And.intro hl4 (And.intro P5 (And.intro st4 (And.intro hq5 hqF))))
            clear P4 P5 PW B4 hb4 st4 hl4 hq5 hqF hq4 hqA hqB hu1 hu2 CK g0 g1
            go_wp2_with (at_builtin; refine wpList_pushR (news := [.string q.nm, .int .i64 q.tb, .slice q.A q.n q.c, .int .u32 q.root, .int .i64 q.lv, .int .i64 q.hi, .slice q.B q.m q.e]) rfl (.tmp 66) (.tmp 68) 23 rfl WB 49 i1 _ 7 96 Try.underlying23 hi1 hz1 hs1 hy1 rfl (by decide) u k _ (by first | rfl | (simp [Act.eval, Act.put]; done)) H5.out.2.1.own2 rfl _ (by first | rfl | (simp [Act.eval, Act.put]; done)) (by simp [World.setCell]) rfl (by intro u hu; simp only [List.mem_cons, List.not_mem_nil, or_false] at hu; rcases hu with rfl | rfl | rfl | rfl | rfl | rfl | rfl <;> rfl) (by omega) (by omega) (by simp [World.setCell]; omega) ?_; intro v8 w8 own8 kp8 ob8; obtain ⟨A9, cc9, rfl, hcc9⟩ := own_form own8; have T9 := blk_far_own (World.ownsRow.alloc H5.out.2.1.own2 _) (H5.out.2.1.T.alloc _) kp8 (by omega); have c9 : w8.cell? ⟨w.heap.size + 1 + 1, 1, none⟩ = some u := T9.cell 1; have f9 : w8.frozen? ⟨w.heap.size + 1 + 1, 1, none⟩ = false := T9.frozen 1; have z9 := T9.lt; have H8 := Lib.hid (And.intro own8 (And.intro kp8 ob8)); clear own8 kp8 ob8 T9)
            exact ⟨⟨k + 1, xs ++ [q], .slice A9 (k + 1) cc9, r4, s4, by omega, by go_num, H5.out.2.1.pushX H5.out.2.2.2.1 H5.out.2.2.2.2.1 H5.out.2.2.2.2.2 H8.out.1 H8.out.2.1 H8.out.2.2, by simp [HQ.out.2.1], H5.out.2.2.1, by rw [List.map_append]; exact HQ.out.2.2.2.snoc H5.out.1⟩, by simp [intOf]; omega⟩
          · have HY : Rel (gMany gIdx b4.toNat) r4 s4 (xs.map Ix.px) rk true := rel_short HK.out.2.2.2 hk
            obtain ⟨A2, c2, rfl, hc2⟩ := own_form HK.out.1.own2
            have PK := HK.out.1
            have BK : BkIn wo A1 n1 c1 l A2 k c2 xs := ⟨Reads.of_own PK.own1, fun t ht => (PK.hl t ht).1, Reads.of_own PK.own2, fun x hx => (PK.hx x hx).1, ⟨HC.out.1, own_cap PK.own1⟩, ⟨hc2, own_cap PK.own2⟩⟩
            have HF : Hid ((∀ ad, A1 = some ad → w.heap.size < ad.block) ∧ (∀ t ∈ l, 0 < t.n → ∀ ad, t.A = some ad → w.heap.size < ad.block) ∧ (∀ ad, A2 = some ad → w.heap.size < ad.block) ∧ ∀ x ∈ xs, (0 < x.n → ∀ ad, x.A = some ad → w.heap.size < ad.block) ∧ (0 < x.m → ∀ ad, x.B = some ad → w.heap.size < ad.block)) := Lib.hid ⟨fun ad ha => by have := own_addr PK.own1 ad ha; omega, fun t ht hn ad ha => by have := ((PK.hl t ht).2 hn ad ha).1; omega, fun ad ha => by have := own_addr PK.own2 ad ha; have := PK.lb; omega, fun x hx => ⟨fun hn ad ha => by have := ((PK.hx x hx).2.1 hn ad ha).1; omega, fun hn ad ha => by have := ((PK.hx x hx).2.2 hn ad ha).1; omega⟩⟩
            have hBook := rel_book H3.out.1 HC.out.2 H4.out.1 HY
            have hB := fun hs => hBook.2 hs
            have t0 : wo.cell? ⟨w.heap.size + 1 + 1, 0, none⟩ = some (.slice A1 n1 c1) := PK.T.cell 0
            have t1 : wo.cell? ⟨w.heap.size + 1 + 1, 1, none⟩ = some (.slice A2 k c2) := PK.T.cell 1
            have y0 : wo.cell? ⟨w.heap.size, 0, none⟩ = some (.slice none 0 0) := PK.Z.cell 0
            have y1 : wo.cell? ⟨w.heap.size, 1, none⟩ = some (.slice none 0 0) := PK.Z.cell 1
            have v0 := PK.Z.frozen 0
            have v1 := PK.Z.frozen 1
            have zR := PK.Z.lt
            have hrz : ((str rk).size : Int) = (rk.length : Int) := by rw [str_size]
            have HZ := Lib.hid (And.intro PK.b (And.intro PK.Z (And.intro PK.T BK)))
            have NO : (true = true ∨ 0 < rk.length) → ¬ ∃ b, gBook bs = some (b, []) ∧ MayB b := fun h => by
              rintro ⟨b, e1, _⟩
              rcases hB rfl with ⟨e2, e3⟩ | ⟨e2, e3⟩
              · rw [e3] at e1; cases e1
              · rw [e3] at e1
                injection e1 with e1
                injection e1 with _ e4
                rcases h with h | h
                · rw [h] at e2; cases e2
                · rw [e4] at h; simp at h
            have HNO := Lib.hid NO
            have HBO := Lib.hid (hB rfl)
            clear NO hB hBook PK BK HY
            clear HBO hrz
            go_wp2
            exact rget_end ((HZ.out.2.1.set_ 0 (.slice none 0 0)).set_ 1 (.slice none 0 0)) (by simp) (by simp) (RetRG.no ((HZ.out.1.setCell (Nat.le_refl _) _).setCell (Nat.le_refl _) _) (HNO.out (.inl (by first | rfl | trivial))))
        · have hkb : k = b4.toNat := by omega
          have e9 : decide ((k : Int) < (b4.toNat : Int)) = false := by simp; omega
          have HY : Rel (gMany gIdx b4.toNat) r4 s4 (xs.map Ix.px) rk sk := hkb ▸ HK.out.2.2.2
          clear hkb
          obtain ⟨A2, c2, rfl, hc2⟩ := own_form HK.out.1.own2
          have PK := HK.out.1
          have BK : BkIn wo A1 n1 c1 l A2 k c2 xs := ⟨Reads.of_own PK.own1, fun t ht => (PK.hl t ht).1, Reads.of_own PK.own2, fun x hx => (PK.hx x hx).1, ⟨HC.out.1, own_cap PK.own1⟩, ⟨hc2, own_cap PK.own2⟩⟩
          have HF : Hid ((∀ ad, A1 = some ad → w.heap.size < ad.block) ∧ (∀ t ∈ l, 0 < t.n → ∀ ad, t.A = some ad → w.heap.size < ad.block) ∧ (∀ ad, A2 = some ad → w.heap.size < ad.block) ∧ ∀ x ∈ xs, (0 < x.n → ∀ ad, x.A = some ad → w.heap.size < ad.block) ∧ (0 < x.m → ∀ ad, x.B = some ad → w.heap.size < ad.block)) := Lib.hid ⟨fun ad ha => by have := own_addr PK.own1 ad ha; omega, fun t ht hn ad ha => by have := ((PK.hl t ht).2 hn ad ha).1; omega, fun ad ha => by have := own_addr PK.own2 ad ha; have := PK.lb; omega, fun x hx => ⟨fun hn ad ha => by have := ((PK.hx x hx).2.1 hn ad ha).1; omega, fun hn ad ha => by have := ((PK.hx x hx).2.2 hn ad ha).1; omega⟩⟩
          have hBook := rel_book H3.out.1 HC.out.2 H4.out.1 HY
          have hB := fun hs => hBook.2 hs
          have t0 : wo.cell? ⟨w.heap.size + 1 + 1, 0, none⟩ = some (.slice A1 n1 c1) := PK.T.cell 0
          have t1 : wo.cell? ⟨w.heap.size + 1 + 1, 1, none⟩ = some (.slice A2 k c2) := PK.T.cell 1
          have y0 : wo.cell? ⟨w.heap.size, 0, none⟩ = some (.slice none 0 0) := PK.Z.cell 0
          have y1 : wo.cell? ⟨w.heap.size, 1, none⟩ = some (.slice none 0 0) := PK.Z.cell 1
          have v0 := PK.Z.frozen 0
          have v1 := PK.Z.frozen 1
          have zR := PK.Z.lt
          have hrz : ((str rk).size : Int) = (rk.length : Int) := by rw [str_size]
          have HZ := Lib.hid (And.intro PK.b (And.intro PK.Z (And.intro PK.T BK)))
          have NO : (sk = true ∨ 0 < rk.length) → ¬ ∃ b, gBook bs = some (b, []) ∧ MayB b := fun h => by
            rintro ⟨b, e1, _⟩
            rcases hB rfl with ⟨e2, e3⟩ | ⟨e2, e3⟩
            · rw [e3] at e1; cases e1
            · rw [e3] at e1
              injection e1 with e1
              injection e1 with _ e4
              rcases h with h | h
              · rw [h] at e2; cases e2
              · rw [e4] at h; simp at h
          have HNO := Lib.hid NO
          have HBO := Lib.hid (hB rfl)
          clear NO hB hBook PK BK HY
          cases sk with
          | true =>
            clear HBO hrz
            go_wp2
            exact rget_end ((HZ.out.2.1.set_ 0 (.slice none 0 0)).set_ 1 (.slice none 0 0)) (by simp) (by simp) (RetRG.no ((HZ.out.1.setCell (Nat.le_refl _) _).setCell (Nat.le_refl _) _) (HNO.out (.inl (by first | rfl | trivial))))
          | false =>
            by_cases hm : 0 < rk.length
            · have hmI : (0 : Int) < ((str rk).size : Int) := by omega
              have hmN : 0 < (str rk).size := by omega
              clear HBO hrz
              go_wp2
              exact rget_end ((HZ.out.2.1.set_ 0 (.slice none 0 0)).set_ 1 (.slice none 0 0)) (by simp) (by simp) (RetRG.no ((HZ.out.1.setCell (Nat.le_refl _) _).setCell (Nat.le_refl _) _) (HNO.out (.inr hm)))
            · have hrk : rk = [] := List.eq_nil_of_length_eq_zero (by omega)
              have hgb : gBook bs = some (pbk l xs, []) := by
                rcases HBO.out with ⟨e2, e3⟩ | ⟨e2, e3⟩
                · cases e2
                · rw [e3, hrk]; rfl
              have hmI : ((str rk).size : Int) = 0 := by omega
              have hmN : (str rk).size = 0 := by omega
              have HGB := Lib.hid hgb
              have MY := Lib.hid (rmay_any A1 n1 c1 l A2 k c2 xs wo HZ.out.2.2.2)
              clear hrk hgb HBO HNO hm
              go_wp2_with fail
              refine MY.out.mono ?_
              rintro e w7 ⟨b, rfl, hbm, hb7⟩
              have R7 := HZ.out.2.1.below hb7 zR
              have T7 := HZ.out.2.2.1.below hb7 HZ.out.2.2.1.lt
              have p0 : w7.cell? ⟨w.heap.size, 0, none⟩ = some (.slice none 0 0) := R7.cell 0
              have p1 : w7.cell? ⟨w.heap.size, 1, none⟩ = some (.slice none 0 0) := R7.cell 1
              have h0 := R7.frozen 0
              have h1 := R7.frozen 1
              have o0 : w7.cell? ⟨w.heap.size + 1 + 1, 0, none⟩ = some (.slice A1 n1 c1) := T7.cell 0
              have o1 : w7.cell? ⟨w.heap.size + 1 + 1, 1, none⟩ = some (.slice A2 k c2) := T7.cell 1
              have z7 := R7.lt
              have H7 := Lib.hid (And.intro hbm (And.intro (HZ.out.1.trans (hb7.mono (by omega))) (And.intro R7 (HZ.out.2.2.2.below hb7))))
              clear hbm hb7 R7 T7 y0 y1 g0 g1 v0 v1 t0 t1
              cases b with
              | false =>
                go_wp2
                refine rget_end ((H7.out.2.2.1.set_ 0 (.slice none 0 0)).set_ 1 (.slice none 0 0)) (by simp) (by simp) (RetRG.no ((H7.out.2.1.setCell (Nat.le_refl _) _).setCell (Nat.le_refl _) _) ?_)
                rintro ⟨b, e1, e2⟩
                rw [HGB.out] at e1
                injection e1 with e1
                injection e1 with e1 _
                subst e1
                exact absurd (H7.out.1.2 e2) (by decide)
              | true =>
                go_wp2
                refine rget_end ((H7.out.2.2.1.set_ 0 (.slice A1 n1 c1)).set_ 1 (.slice A2 k c2)) (by simp) (by simp) ⟨A1, n1, c1, l, A2, k, c2, xs, true, rfl, ?_, (H7.out.2.1.setCell (Nat.le_refl _) _).setCell (Nat.le_refl _) _, .inl ⟨rfl, HGB.out, H7.out.1.1 (by first | rfl | trivial)⟩⟩
                exact (H7.out.2.2.2.far HF.out.1 HF.out.2.1 HF.out.2.2.1 HF.out.2.2.2 0 _).far HF.out.1 HF.out.2.1 HF.out.2.2.1 HF.out.2.2.2 1 _
end
end Go.Proofs.Ytflolnilagogpaa
