/- The document's own Clash answers the plain function; nothing that was in memory turns. -/
import Derived.Test.YtghpcgagijhlaaaDoorPClash
namespace Go.Proofs.YtghpcgagijhlaaaDoor
open Go.RowKit Sha

theorem own_form {w : World} {base : Nat} {e : TypeId} {v : Value} {n : Nat} {xs : List Value} (h : Own w base e v n xs) : ∃ o cap, v = .slice o n cap := by
  rcases h.2 with ⟨rfl, h0⟩ | ⟨g, cap, _, _, rfl, _⟩
  · exact ⟨none, 0, by rw [h0]⟩
  · exact ⟨_, cap, rfl⟩

set_option maxRecDepth 100000 in
set_option maxHeartbeats 4000000 in
theorem Clash_any (root idx s t : ByteArray) (w : World) (hs : s.size ≤ 140737488351232) (ht : t.size ≤ 140737488351232) (hr : root.size ≤ 140737488351232) :
    Calls Tryd.prog 22 #[.string root, .string idx, .string s, .string t] w fun e w' => Below w.heap.size w w' ∧
      e = .returned (.tuple #[.string ⟨(clashed root.data.toList idx.data.toList s.data.toList t.data.toList).1.toArray⟩, .string ⟨(clashed root.data.toList idx.data.toList s.data.toList t.data.toList).2.1.toArray⟩, .int .i64 ((clashed root.data.toList idx.data.toList s.data.toList t.data.toList).2.2 : Nat)]) := by
  have hrl : root.data.toList.length = root.size := by simp
  have hil : idx.data.toList.length = idx.size := by simp
  go_enter Tryd.func22, Tryd.ntmps22
  go_wp2_with fail
  refine (look_any root idx s w hs hr).mono ?_
  rintro e w1 ⟨hb, hcase⟩
  have B1 : Hid (Below w.heap.size w w1) := hb
  clear hb
  rcases hcase with ⟨hn, rfl⟩ | ⟨p, v, hn, hp, hroot, rfl, hown⟩
  · have HV : Hid (clashed root.data.toList idx.data.toList s.data.toList t.data.toList = ([], [], lookErr root.data.toList idx.data.toList s.data.toList)) := clashed_one hn
    generalize lookErr root.data.toList idx.data.toList s.data.toList = n at *
    have hne : ((n : Int) != 0) = true := by rw [bne_iff_ne]; omega
    have B2 : Hid (Below w.heap.size w ((w1.alloc (.cells zeroWay 53)).setRow w1.heap.size zeroWay)) := below_setRow (B1.out.alloc B1.out.size _) B1.out.size _
    have y1 : Hid (Blk (w1.alloc (.cells zeroWay 53)) w1.heap.size 53 zeroWay) := Blk.new _ _ _
    clear hn
    go_wp2_with (refine wpList_store_row rfl 53 _ _ rfl w1.heap.size zeroWay rfl rfl _ _ y1.out (by kernel_rfl) rfl (by kernel_rfl) ?_)
    go_ret3
    exact ⟨B2.out, by rw [HV.out]; rfl⟩
  have HN : Hid (lookErr root.data.toList idx.data.toList s.data.toList = 0) := hn
  have HP : Hid (parse root.data.toList.length idx.data.toList s.data.toList = some p) := hp
  have harg := lookErr_argc (show lookErr root.data.toList idx.data.toList s.data.toList ≠ 1 by omega)
  rw [hrl, hil] at harg
  have hOk := parse_ok (by rw [hrl]; omega) hp
  rw [hrl] at hOk
  obtain ⟨k, hk⟩ : ∃ k, root.size = k := ⟨_, rfl⟩
  have Hk : Hid (root.size = k) := hk
  rw [hk] at hOk
  have hk1 : 1 ≤ k := by omega
  have hk2 : k ≤ 32 := by omega
  have h32 : idx.size = 32 := by omega
  have HOk : Hid (p.Ok k) := hOk
  obtain ⟨o1, cap1, rfl⟩ := own_form hown
  have HO : Hid (Own w1 w.heap.size 9 (.slice o1 p.sibs.length cap1) p.sibs.length (p.sibs.map fun x => .string ⟨x.toArray⟩)) := hown
  have y1 : Hid (Blk (w1.alloc (.cells zeroWay 53)) w1.heap.size 53 zeroWay) := Blk.new _ _ _
  have K2 : Hid (Blk ((w1.alloc (.cells zeroWay 53)).setRow w1.heap.size (wayCells p.kind (.slice o1 p.sibs.length cap1) p.value p.other p.digest)) w1.heap.size 53 (wayCells p.kind (.slice o1 p.sibs.length cap1) p.value p.other p.digest)) := y1.out.row_same _
  have B2 : Hid (Below w.heap.size w ((w1.alloc (.cells zeroWay 53)).setRow w1.heap.size (wayCells p.kind (.slice o1 p.sibs.length cap1) p.value p.other p.digest))) := below_setRow (B1.out.alloc B1.out.size _) B1.out.size _
  have O2 : Hid (Own ((w1.alloc (.cells zeroWay 53)).setRow w1.heap.size (wayCells p.kind (.slice o1 p.sibs.length cap1) p.value p.other p.digest)) w.heap.size 9 (.slice o1 p.sibs.length cap1) p.sibs.length (p.sibs.map fun x => .string ⟨x.toArray⟩)) := (HO.out.alloc _).kept fun g hg => heap_setRow_other _ _ _ _ (by have := (HO.out.lt g hg).2; omega)
  clear hn hp hroot hown hOk harg
  go_wp2_with (refine wpList_store_row rfl 53 _ _ rfl w1.heap.size (wayCells _ _ _ _ _) rfl rfl _ _ y1.out (by kernel_rfl) rfl (way_one HO.out) ?_)
  clear HO y1 B1
  rw [show (w1.alloc (.cells #[.int .i64 0, .slice none 0 0, .string ⟨#[]⟩, .string ⟨#[]⟩, .string ⟨#[]⟩] 53)) = w1.alloc (.cells zeroWay 53) from rfl]
  generalize (w1.alloc (.cells zeroWay 53)).setRow w1.heap.size (wayCells p.kind (.slice o1 p.sibs.length cap1) p.value p.other p.digest) = w2 at *
  generalize w1.heap.size = g1 at *
  have hg1 := K2.out.lt
  refine (look_any root idx t w2 ht hr).mono ?_
  rintro e w3 ⟨hb, hcase⟩
  have B3 := below_then' B2.out hb B2.out.size
  have K3 : Hid (Blk w3 g1 53 (wayCells p.kind (.slice o1 p.sibs.length cap1) p.value p.other p.digest)) := K2.out.below hb hg1
  have O3 : Hid (Own w3 w.heap.size 9 (.slice o1 p.sibs.length cap1) p.sibs.length (p.sibs.map fun x => .string ⟨x.toArray⟩)) := O2.out.below hb (Nat.le_refl _)
  have hsz : w2.heap.size ≤ w3.heap.size := hb.size
  have hwz : w.heap.size ≤ w2.heap.size := B2.out.size
  clear hb B2 K2 O2
  have y3 : Hid (Blk (w3.alloc (.cells zeroWay 53)) w3.heap.size 53 zeroWay) := Blk.new _ _ _
  rcases hcase with ⟨hn, rfl⟩ | ⟨q, u, hn, hq, hroot, rfl, hown⟩
  · have HV : Hid (clashed root.data.toList idx.data.toList s.data.toList t.data.toList = ([], [], lookErr root.data.toList idx.data.toList t.data.toList)) := clashed_two HN.out hn
    generalize lookErr root.data.toList idx.data.toList t.data.toList = n at *
    have hne : ((n : Int) != 0) = true := by rw [bne_iff_ne]; omega
    have B4 : Hid (Below w.heap.size w ((w3.alloc (.cells zeroWay 53)).setRow w3.heap.size zeroWay)) := below_setRow (B3.out.alloc B3.out.size _) B3.out.size _
    clear hn
    go_wp2_with (refine wpList_store_row rfl 53 _ _ rfl w3.heap.size zeroWay rfl rfl _ _ y3.out (by kernel_rfl) rfl (by kernel_rfl) ?_)
    go_ret3
    exact ⟨B4.out, by rw [HV.out]; rfl⟩
  have HN2 : Hid (lookErr root.data.toList idx.data.toList t.data.toList = 0) := hn
  have HQ : Hid (parse root.data.toList.length idx.data.toList t.data.toList = some q) := hq
  have hOk2 := parse_ok (by rw [hrl]; omega) hq
  rw [hrl, hk] at hOk2
  have HOq : Hid (q.Ok k) := hOk2
  obtain ⟨o2, cap2, rfl⟩ := own_form hown
  have HO2 : Hid (Own w3 w.heap.size 9 (.slice o2 q.sibs.length cap2) q.sibs.length (q.sibs.map fun x => .string ⟨x.toArray⟩)) := hown.lower (by omega)
  have B4 : Hid (Below w.heap.size w ((w3.alloc (.cells zeroWay 53)).setRow w3.heap.size (wayCells q.kind (.slice o2 q.sibs.length cap2) q.value q.other q.digest))) := below_setRow (B3.out.alloc B3.out.size _) B3.out.size _
  have K4 : Hid (Blk ((w3.alloc (.cells zeroWay 53)).setRow w3.heap.size (wayCells q.kind (.slice o2 q.sibs.length cap2) q.value q.other q.digest)) g1 53 (wayCells p.kind (.slice o1 p.sibs.length cap1) p.value p.other p.digest)) := (K3.out.alloc _).row_other _ (by omega)
  have L4 : Hid (Blk ((w3.alloc (.cells zeroWay 53)).setRow w3.heap.size (wayCells q.kind (.slice o2 q.sibs.length cap2) q.value q.other q.digest)) w3.heap.size 53 (wayCells q.kind (.slice o2 q.sibs.length cap2) q.value q.other q.digest)) := y3.out.row_same _
  have O4 : Hid (Own ((w3.alloc (.cells zeroWay 53)).setRow w3.heap.size (wayCells q.kind (.slice o2 q.sibs.length cap2) q.value q.other q.digest)) w.heap.size 9 (.slice o1 p.sibs.length cap1) p.sibs.length (p.sibs.map fun x => .string ⟨x.toArray⟩)) := (O3.out.alloc _).kept fun g hg => heap_setRow_other _ _ _ _ (by have := (O3.out.lt g hg).2; omega)
  have P4 : Hid (Own ((w3.alloc (.cells zeroWay 53)).setRow w3.heap.size (wayCells q.kind (.slice o2 q.sibs.length cap2) q.value q.other q.digest)) w.heap.size 9 (.slice o2 q.sibs.length cap2) q.sibs.length (q.sibs.map fun x => .string ⟨x.toArray⟩)) := (HO2.out.alloc _).kept fun g hg => heap_setRow_other _ _ _ _ (by have := (HO2.out.lt g hg).2; omega)
  clear hn hq hroot hown hOk2
  go_upto_region 7 with (refine wpList_store_row rfl 53 _ _ rfl w3.heap.size (wayCells _ _ _ _ _) rfl rfl _ _ y3.out (by kernel_rfl) rfl (way_one HO2.out) ?_)
  clear HO2 y3 B3 K3 O3
  rw [show (w3.alloc (.cells #[.int .i64 0, .slice none 0 0, .string ⟨#[]⟩, .string ⟨#[]⟩, .string ⟨#[]⟩] 53)) = w3.alloc (.cells zeroWay 53) from rfl]
  generalize (w3.alloc (.cells zeroWay 53)).setRow w3.heap.size (wayCells q.kind (.slice o2 q.sibs.length cap2) q.value q.other q.digest) = w4 at *
  generalize w3.heap.size = g2 at *
  have hpv := HOk.out.value
  have hqv := HOq.out.value
  have hpd := HOk.out.depth
  have hqd := HOq.out.depth
  have HH : Hid (∀ (d : Nat) (os : Array Obj) (kd : Nat) (v : Value) (a b c : List UInt8), Calls Tryd.prog 38 #[.agg (wayCells kd v a b c)] (Go.Sort.grow (redrawn w4 d) os) fun e w'' => e = .returned (.agg #[.int .i64 (sayN kd : Nat), .string ⟨(sayV kd a).toArray⟩]) ∧ ∃ p : Regrown, w'' = Go.Sort.grow (redrawn w4 p.d) p.os) := fun d os kd v a b c => by
    have := said_any ⟨kd, [], a, b, c⟩ v (Go.Sort.grow (redrawn w4 d) os)
    rw [say_eq] at this
    exact Calls.regrown_of this
  have e0 : ∀ (d : Nat) (os : Array Obj), (Go.Sort.grow (redrawn w4 d) os).cell? ⟨g1, 0, none⟩ = some (.int .i64 (p.kind : Int)) := fun d os => ((K4.out.below (below_regrown w4 d os) K4.out.lt).cell 0).trans rfl
  have e1 : ∀ (d : Nat) (os : Array Obj), (Go.Sort.grow (redrawn w4 d) os).cell? ⟨g1, 1, none⟩ = some (.slice o1 p.sibs.length cap1) := fun d os => ((K4.out.below (below_regrown w4 d os) K4.out.lt).cell 1).trans rfl
  have e2 : ∀ (d : Nat) (os : Array Obj), (Go.Sort.grow (redrawn w4 d) os).cell? ⟨g1, 2, none⟩ = some (.string ⟨p.value.toArray⟩) := fun d os => ((K4.out.below (below_regrown w4 d os) K4.out.lt).cell 2).trans rfl
  have e3 : ∀ (d : Nat) (os : Array Obj), (Go.Sort.grow (redrawn w4 d) os).cell? ⟨g1, 3, none⟩ = some (.string ⟨p.other.toArray⟩) := fun d os => ((K4.out.below (below_regrown w4 d os) K4.out.lt).cell 3).trans rfl
  have e4 : ∀ (d : Nat) (os : Array Obj), (Go.Sort.grow (redrawn w4 d) os).cell? ⟨g1, 4, none⟩ = some (.string ⟨p.digest.toArray⟩) := fun d os => ((K4.out.below (below_regrown w4 d os) K4.out.lt).cell 4).trans rfl
  have f0 : ∀ (d : Nat) (os : Array Obj), (Go.Sort.grow (redrawn w4 d) os).cell? ⟨g2, 0, none⟩ = some (.int .i64 (q.kind : Int)) := fun d os => ((L4.out.below (below_regrown w4 d os) L4.out.lt).cell 0).trans rfl
  have f1 : ∀ (d : Nat) (os : Array Obj), (Go.Sort.grow (redrawn w4 d) os).cell? ⟨g2, 1, none⟩ = some (.slice o2 q.sibs.length cap2) := fun d os => ((L4.out.below (below_regrown w4 d os) L4.out.lt).cell 1).trans rfl
  have f2 : ∀ (d : Nat) (os : Array Obj), (Go.Sort.grow (redrawn w4 d) os).cell? ⟨g2, 2, none⟩ = some (.string ⟨q.value.toArray⟩) := fun d os => ((L4.out.below (below_regrown w4 d os) L4.out.lt).cell 2).trans rfl
  have f3 : ∀ (d : Nat) (os : Array Obj), (Go.Sort.grow (redrawn w4 d) os).cell? ⟨g2, 3, none⟩ = some (.string ⟨q.other.toArray⟩) := fun d os => ((L4.out.below (below_regrown w4 d os) L4.out.lt).cell 3).trans rfl
  have f4 : ∀ (d : Nat) (os : Array Obj), (Go.Sort.grow (redrawn w4 d) os).cell? ⟨g2, 4, none⟩ = some (.string ⟨q.digest.toArray⟩) := fun d os => ((L4.out.below (below_regrown w4 d os) L4.out.lt).cell 4).trans rfl
  go_wp2
  refine wp_region_quiet_below (by kernel_rfl) (by kernel_rfl) ?_
  repeat (any_goals (first | go_big_quiet_step ((exact HH.out _ _ _ _ _ _ _)) | quiet_step ((exact HH.out _ _ _ _ _ _ _))))
  clear e0 e1 e2 e3 e4 f0 f1 f2 f3 f4 HH
  have sp := say_eq p
  have sq := say_eq q
  have Sp : Hid (p.said = (sayN p.kind, sayV p.kind p.value)) := sp
  have Sq : Hid (q.said = (sayN q.kind, sayV q.kind q.value)) := sq
  clear sp sq
  generalize sayN p.kind = n1 at *
  generalize sayN q.kind = n2 at *
  generalize sayV p.kind p.value = v1 at *
  generalize sayV q.kind q.value = v2 at *
  by_cases hn : n1 = n2
  · subst hn
    by_cases hv : v1 = v2
    · subst hv
      have HV : Hid (clashed root.data.toList idx.data.toList s.data.toList t.data.toList = ([], [], 1)) := clashed_same HN.out HN2.out HP.out HQ.out (Sp.out.trans Sq.out.symm)
      quiet_step ((fail))
      refine wpQuiet_nil ?_
      intro w5 hw'
      obtain ⟨z, hz⟩ := hw'
      have hb : Hid (Below w4.heap.size w4 w5) := by rw [hz]; exact below_regrown w4 z.d z.os
      clear hz
      have B5 := below_then' B4.out hb.out B4.out.size
      go_wp2
      go_ret3
      exact ⟨B5.out, by rw [HV.out]; rfl⟩
    have Hs : Hid (p.said ≠ q.said) := fun h => hv (by rw [Sp.out, Sq.out] at h; exact (Prod.mk.inj h).2)
    have hvq : (v1 == v2) = false := by rw [beq_eq_false_iff_ne]; exact hv
    clear hv
    quiet_step ((fail))
    clear hvq
    refine wpQuiet_nil ?_
    intro w5 hw'
    obtain ⟨z, hz⟩ := hw'
    have hb : Hid (Below w4.heap.size w4 w5) := by rw [hz]; exact below_regrown w4 z.d z.os
    clear hz
    have B5 := below_then' B4.out hb.out B4.out.size
    have K5 : Hid (Blk w5 g1 53 (wayCells p.kind (.slice o1 p.sibs.length cap1) p.value p.other p.digest)) := K4.out.below hb.out K4.out.lt
    have L5 : Hid (Blk w5 g2 53 (wayCells q.kind (.slice o2 q.sibs.length cap2) q.value q.other q.digest)) := L4.out.below hb.out L4.out.lt
    have O5 : Hid (Own w5 w.heap.size 9 (.slice o1 p.sibs.length cap1) p.sibs.length (p.sibs.map fun x => .string ⟨x.toArray⟩)) := O4.out.below hb.out (Nat.le_refl _)
    have P5 : Hid (Own w5 w.heap.size 9 (.slice o2 q.sibs.length cap2) q.sibs.length (q.sibs.map fun x => .string ⟨x.toArray⟩)) := P4.out.below hb.out (Nat.le_refl _)
    clear B4 K4 L4 O4 P4 hb
    have HV : Hid (clashed root.data.toList idx.data.toList s.data.toList t.data.toList = ((clashOf k idx.data.toList p q).1, (clashOf k idx.data.toList p q).2, 0)) := by
      have := clashed_texts HN.out HN2.out HP.out HQ.out Hs.out
      rw [hrl, hk] at this
      exact this
    obtain ⟨M, hM⟩ : ∃ M : Nat, M = min p.sibs.length q.sibs.length + 1 := ⟨_, rfl⟩
    have HM : Hid (M = min p.sibs.length q.sibs.length + 1) := hM
    clear hM
    go_wp2
    go_loopg [14] M (fun gq i wr => ∃ j : Nat, j + gq = M ∧ i = .int .i64 (j : Int) ∧ (∀ i, i < j → p.textAt k idx.data.toList i = q.textAt k idx.data.toList i) ∧ Below w.heap.size w wr ∧ Blk wr g1 53 (wayCells p.kind (.slice o1 p.sibs.length cap1) p.value p.other p.digest) ∧ Blk wr g2 53 (wayCells q.kind (.slice o2 q.sibs.length cap2) q.value q.other q.digest) ∧ Own wr w.heap.size 9 (.slice o1 p.sibs.length cap1) p.sibs.length (p.sibs.map fun x => .string ⟨x.toArray⟩) ∧ Own wr w.heap.size 9 (.slice o2 q.sibs.length cap2) q.sibs.length (q.sibs.map fun x => .string ⟨x.toArray⟩))
    case atStart => exact ⟨0, by omega, rfl, fun i h => by omega, B5.out, K5.out, L5.out, O5.out, P5.out⟩
    case round =>
      obtain ⟨j, hj, rfl, c0, c1, c2, c3, c4, c5⟩ := hrel
      clear B5 K5 L5 O5 P5
      have C0 : Hid (∀ i, i < j → p.textAt k idx.data.toList i = q.textAt k idx.data.toList i) := c0
      have C1 : Hid (Below w.heap.size w wr) := c1
      have C2 : Hid (Blk wr g1 53 (wayCells p.kind (.slice o1 p.sibs.length cap1) p.value p.other p.digest)) := c2
      have C3 : Hid (Blk wr g2 53 (wayCells q.kind (.slice o2 q.sibs.length cap2) q.value q.other q.digest)) := c3
      have C4 : Hid (Own wr w.heap.size 9 (.slice o1 p.sibs.length cap1) p.sibs.length (p.sibs.map fun x => .string ⟨x.toArray⟩)) := c4
      have C5 : Hid (Own wr w.heap.size 9 (.slice o2 q.sibs.length cap2) q.sibs.length (q.sibs.map fun x => .string ⟨x.toArray⟩)) := c5
      clear c0 c1 c2 c3 c4 c5
      have eP : wr.cell? ⟨g1, 1, none⟩ = some (.slice o1 p.sibs.length cap1) := (C2.out.cell 1).trans rfl
      have eQ : wr.cell? ⟨g2, 1, none⟩ = some (.slice o2 q.sibs.length cap2) := (C3.out.cell 1).trans rfl
      have hMM := HM.out
      by_cases hlt : j < M
      · have hjp : j ≤ p.sibs.length := by omega
        have hjq : j ≤ q.sibs.length := by omega
        clear hMM
        have Ha : Hid (p.textAt k idx.data.toList j ≠ q.textAt k idx.data.toList j → clashOf k idx.data.toList p q = (p.textAt k idx.data.toList j, q.textAt k idx.data.toList j)) := clashOf_at C0.out hjp hjq
        have He : Hid (p.textAt k idx.data.toList j = q.textAt k idx.data.toList j → ∀ i, i < j + 1 → p.textAt k idx.data.toList i = q.textAt k idx.data.toList i) := fun h i hi => by
          by_cases hij : i = j
          · rw [hij]; exact h
          · exact C0.out i (by omega)
        go_wp2_with (refine wpList_load_row rfl 53 _ rfl g1 rfl _ _ _ _ C2.out Tryd.underlying53 rfl (by kernel_rfl) ?_)
        refine (at_any k j idx p (.slice o1 p.sibs.length cap1) w.heap.size wr hk1 hk2 h32 HOk.out (by omega) C4.out).mono ?_
        rintro e w6 ⟨rfl, hb6⟩
        have D1 := below_then' C1.out hb6 C1.out.size
        have D2 : Hid (Blk w6 g1 53 (wayCells p.kind (.slice o1 p.sibs.length cap1) p.value p.other p.digest)) := C2.out.below hb6 C2.out.lt
        have D3 : Hid (Blk w6 g2 53 (wayCells q.kind (.slice o2 q.sibs.length cap2) q.value q.other q.digest)) := C3.out.below hb6 C3.out.lt
        have D4 : Hid (Own w6 w.heap.size 9 (.slice o1 p.sibs.length cap1) p.sibs.length (p.sibs.map fun x => .string ⟨x.toArray⟩)) := C4.out.below hb6 (Nat.le_refl _)
        have D5 : Hid (Own w6 w.heap.size 9 (.slice o2 q.sibs.length cap2) q.sibs.length (q.sibs.map fun x => .string ⟨x.toArray⟩)) := C5.out.below hb6 (Nat.le_refl _)
        clear hb6 C0 C1 C2 C3 C4 C5 eP eQ
        go_wp2_with (refine wpList_load_row rfl 53 _ rfl g2 rfl _ _ _ _ D3.out Tryd.underlying53 rfl (by kernel_rfl) ?_)
        refine (at_any k j idx q (.slice o2 q.sibs.length cap2) w.heap.size w6 hk1 hk2 h32 HOq.out (by omega) D5.out).mono ?_
        rintro e w7 ⟨rfl, hb6⟩
        have E1 := below_then' D1.out hb6 D1.out.size
        have E2 : Hid (Blk w7 g1 53 (wayCells p.kind (.slice o1 p.sibs.length cap1) p.value p.other p.digest)) := D2.out.below hb6 D2.out.lt
        have E3 : Hid (Blk w7 g2 53 (wayCells q.kind (.slice o2 q.sibs.length cap2) q.value q.other q.digest)) := D3.out.below hb6 D3.out.lt
        have E4 : Hid (Own w7 w.heap.size 9 (.slice o1 p.sibs.length cap1) p.sibs.length (p.sibs.map fun x => .string ⟨x.toArray⟩)) := D4.out.below hb6 (Nat.le_refl _)
        have E5 : Hid (Own w7 w.heap.size 9 (.slice o2 q.sibs.length cap2) q.sibs.length (q.sibs.map fun x => .string ⟨x.toArray⟩)) := D5.out.below hb6 (Nat.le_refl _)
        clear hb6 D1 D2 D3 D4 D5
        generalize p.textAt k idx.data.toList j = X at *
        generalize q.textAt k idx.data.toList j = Y at *
        by_cases hXY : X = Y
        · have he := He.out hXY
          have HE' : Hid (∀ i, i < j + 1 → p.textAt k idx.data.toList i = q.textAt k idx.data.toList i) := he
          have hxe : (X == Y) = true := by rw [beq_iff_eq]; exact hXY
          clear he He Ha hXY
          go_wp2
          go_roundg (M - (j + 1))
          case measure => omega
          case rel =>
            go_light
            exact ⟨j + 1, by omega, by go_num, HE'.out, E1.out, E2.out, E3.out, E4.out, E5.out⟩
        · have hne : (X == Y) = false := by rw [beq_eq_false_iff_ne]; exact hXY
          have HA : Hid (clashOf k idx.data.toList p q = (X, Y)) := Ha.out hXY
          clear He Ha hXY
          go_wp2
          go_ret3
          exact ⟨E1.out, by rw [HV.out, HA.out]; rfl⟩
      · obtain rfl : j = M := by omega
        have HNo : Hid (clashOf k idx.data.toList p q = (4 :: p.value, 4 :: q.value)) := clashOf_none fun i h1 h2 => C0.out i (by omega)
        have e1 : wr.cell? ⟨g1, 2, none⟩ = some (.string ⟨p.value.toArray⟩) := (C2.out.cell 2).trans rfl
        have e2 : wr.cell? ⟨g2, 2, none⟩ = some (.string ⟨q.value.toArray⟩) := (C3.out.cell 2).trans rfl
        have fp : Hid ((⟨#[4]⟩ : ByteArray) ++ ⟨p.value.toArray⟩ = ⟨(4 :: p.value).toArray⟩) := by
          apply ByteArray.ext
          apply Array.toList_inj.1
          simp [ByteArray.data_append]
        have fq : Hid ((⟨#[4]⟩ : ByteArray) ++ ⟨q.value.toArray⟩ = ⟨(4 :: q.value).toArray⟩) := by
          apply ByteArray.ext
          apply Array.toList_inj.1
          simp [ByteArray.data_append]
        have sp : (⟨p.value.toArray⟩ : ByteArray).size ≤ 1000 := by show p.value.length ≤ 1000; omega
        have sq : (⟨q.value.toArray⟩ : ByteArray).size ≤ 1000 := by show q.value.length ≤ 1000; omega
        generalize (⟨p.value.toArray⟩ : ByteArray) = a1 at *
        generalize (⟨q.value.toArray⟩ : ByteArray) = a2 at *
        by_cases hpq : j ≤ p.sibs.length
        · have hqj : ¬ j ≤ q.sibs.length := by omega
          clear hMM
          go_wp2
          go_quiet (fail)
          go_wp2
          go_ret3
          exact ⟨below_drewN C1.out _, by rw [HV.out, HNo.out]; dsimp only; rw [← fp.out, ← fq.out]; rfl⟩
        · clear hMM
          go_wp2
          go_quiet (fail)
          go_wp2
          go_ret3
          exact ⟨below_drewN C1.out _, by rw [HV.out, HNo.out]; dsimp only; rw [← fp.out, ← fq.out]; rfl⟩
  · have Hs : Hid (p.said ≠ q.said) := fun h => hn (by rw [Sp.out, Sq.out] at h; exact (Prod.mk.inj h).1)
    have hnq : ((n1 : Int) == (n2 : Int)) = false := by rw [beq_eq_false_iff_ne]; omega
    clear hn
    quiet_step ((fail))
    clear hnq
    refine wpQuiet_nil ?_
    intro w5 hw'
    obtain ⟨z, hz⟩ := hw'
    have hb : Hid (Below w4.heap.size w4 w5) := by rw [hz]; exact below_regrown w4 z.d z.os
    clear hz
    have B5 := below_then' B4.out hb.out B4.out.size
    have K5 : Hid (Blk w5 g1 53 (wayCells p.kind (.slice o1 p.sibs.length cap1) p.value p.other p.digest)) := K4.out.below hb.out K4.out.lt
    have L5 : Hid (Blk w5 g2 53 (wayCells q.kind (.slice o2 q.sibs.length cap2) q.value q.other q.digest)) := L4.out.below hb.out L4.out.lt
    have O5 : Hid (Own w5 w.heap.size 9 (.slice o1 p.sibs.length cap1) p.sibs.length (p.sibs.map fun x => .string ⟨x.toArray⟩)) := O4.out.below hb.out (Nat.le_refl _)
    have P5 : Hid (Own w5 w.heap.size 9 (.slice o2 q.sibs.length cap2) q.sibs.length (q.sibs.map fun x => .string ⟨x.toArray⟩)) := P4.out.below hb.out (Nat.le_refl _)
    clear B4 K4 L4 O4 P4 hb
    have HV : Hid (clashed root.data.toList idx.data.toList s.data.toList t.data.toList = ((clashOf k idx.data.toList p q).1, (clashOf k idx.data.toList p q).2, 0)) := by
      have := clashed_texts HN.out HN2.out HP.out HQ.out Hs.out
      rw [hrl, hk] at this
      exact this
    obtain ⟨M, hM⟩ : ∃ M : Nat, M = min p.sibs.length q.sibs.length + 1 := ⟨_, rfl⟩
    have HM : Hid (M = min p.sibs.length q.sibs.length + 1) := hM
    clear hM
    go_wp2
    go_loopg [14] M (fun gq i wr => ∃ j : Nat, j + gq = M ∧ i = .int .i64 (j : Int) ∧ (∀ i, i < j → p.textAt k idx.data.toList i = q.textAt k idx.data.toList i) ∧ Below w.heap.size w wr ∧ Blk wr g1 53 (wayCells p.kind (.slice o1 p.sibs.length cap1) p.value p.other p.digest) ∧ Blk wr g2 53 (wayCells q.kind (.slice o2 q.sibs.length cap2) q.value q.other q.digest) ∧ Own wr w.heap.size 9 (.slice o1 p.sibs.length cap1) p.sibs.length (p.sibs.map fun x => .string ⟨x.toArray⟩) ∧ Own wr w.heap.size 9 (.slice o2 q.sibs.length cap2) q.sibs.length (q.sibs.map fun x => .string ⟨x.toArray⟩))
    case atStart => exact ⟨0, by omega, rfl, fun i h => by omega, B5.out, K5.out, L5.out, O5.out, P5.out⟩
    case round =>
      obtain ⟨j, hj, rfl, c0, c1, c2, c3, c4, c5⟩ := hrel
      clear B5 K5 L5 O5 P5
      have C0 : Hid (∀ i, i < j → p.textAt k idx.data.toList i = q.textAt k idx.data.toList i) := c0
      have C1 : Hid (Below w.heap.size w wr) := c1
      have C2 : Hid (Blk wr g1 53 (wayCells p.kind (.slice o1 p.sibs.length cap1) p.value p.other p.digest)) := c2
      have C3 : Hid (Blk wr g2 53 (wayCells q.kind (.slice o2 q.sibs.length cap2) q.value q.other q.digest)) := c3
      have C4 : Hid (Own wr w.heap.size 9 (.slice o1 p.sibs.length cap1) p.sibs.length (p.sibs.map fun x => .string ⟨x.toArray⟩)) := c4
      have C5 : Hid (Own wr w.heap.size 9 (.slice o2 q.sibs.length cap2) q.sibs.length (q.sibs.map fun x => .string ⟨x.toArray⟩)) := c5
      clear c0 c1 c2 c3 c4 c5
      have eP : wr.cell? ⟨g1, 1, none⟩ = some (.slice o1 p.sibs.length cap1) := (C2.out.cell 1).trans rfl
      have eQ : wr.cell? ⟨g2, 1, none⟩ = some (.slice o2 q.sibs.length cap2) := (C3.out.cell 1).trans rfl
      have hMM := HM.out
      by_cases hlt : j < M
      · have hjp : j ≤ p.sibs.length := by omega
        have hjq : j ≤ q.sibs.length := by omega
        clear hMM
        have Ha : Hid (p.textAt k idx.data.toList j ≠ q.textAt k idx.data.toList j → clashOf k idx.data.toList p q = (p.textAt k idx.data.toList j, q.textAt k idx.data.toList j)) := clashOf_at C0.out hjp hjq
        have He : Hid (p.textAt k idx.data.toList j = q.textAt k idx.data.toList j → ∀ i, i < j + 1 → p.textAt k idx.data.toList i = q.textAt k idx.data.toList i) := fun h i hi => by
          by_cases hij : i = j
          · rw [hij]; exact h
          · exact C0.out i (by omega)
        go_wp2_with (refine wpList_load_row rfl 53 _ rfl g1 rfl _ _ _ _ C2.out Tryd.underlying53 rfl (by kernel_rfl) ?_)
        refine (at_any k j idx p (.slice o1 p.sibs.length cap1) w.heap.size wr hk1 hk2 h32 HOk.out (by omega) C4.out).mono ?_
        rintro e w6 ⟨rfl, hb6⟩
        have D1 := below_then' C1.out hb6 C1.out.size
        have D2 : Hid (Blk w6 g1 53 (wayCells p.kind (.slice o1 p.sibs.length cap1) p.value p.other p.digest)) := C2.out.below hb6 C2.out.lt
        have D3 : Hid (Blk w6 g2 53 (wayCells q.kind (.slice o2 q.sibs.length cap2) q.value q.other q.digest)) := C3.out.below hb6 C3.out.lt
        have D4 : Hid (Own w6 w.heap.size 9 (.slice o1 p.sibs.length cap1) p.sibs.length (p.sibs.map fun x => .string ⟨x.toArray⟩)) := C4.out.below hb6 (Nat.le_refl _)
        have D5 : Hid (Own w6 w.heap.size 9 (.slice o2 q.sibs.length cap2) q.sibs.length (q.sibs.map fun x => .string ⟨x.toArray⟩)) := C5.out.below hb6 (Nat.le_refl _)
        clear hb6 C0 C1 C2 C3 C4 C5 eP eQ
        go_wp2_with (refine wpList_load_row rfl 53 _ rfl g2 rfl _ _ _ _ D3.out Tryd.underlying53 rfl (by kernel_rfl) ?_)
        refine (at_any k j idx q (.slice o2 q.sibs.length cap2) w.heap.size w6 hk1 hk2 h32 HOq.out (by omega) D5.out).mono ?_
        rintro e w7 ⟨rfl, hb6⟩
        have E1 := below_then' D1.out hb6 D1.out.size
        have E2 : Hid (Blk w7 g1 53 (wayCells p.kind (.slice o1 p.sibs.length cap1) p.value p.other p.digest)) := D2.out.below hb6 D2.out.lt
        have E3 : Hid (Blk w7 g2 53 (wayCells q.kind (.slice o2 q.sibs.length cap2) q.value q.other q.digest)) := D3.out.below hb6 D3.out.lt
        have E4 : Hid (Own w7 w.heap.size 9 (.slice o1 p.sibs.length cap1) p.sibs.length (p.sibs.map fun x => .string ⟨x.toArray⟩)) := D4.out.below hb6 (Nat.le_refl _)
        have E5 : Hid (Own w7 w.heap.size 9 (.slice o2 q.sibs.length cap2) q.sibs.length (q.sibs.map fun x => .string ⟨x.toArray⟩)) := D5.out.below hb6 (Nat.le_refl _)
        clear hb6 D1 D2 D3 D4 D5
        generalize p.textAt k idx.data.toList j = X at *
        generalize q.textAt k idx.data.toList j = Y at *
        by_cases hXY : X = Y
        · have he := He.out hXY
          have HE' : Hid (∀ i, i < j + 1 → p.textAt k idx.data.toList i = q.textAt k idx.data.toList i) := he
          have hxe : (X == Y) = true := by rw [beq_iff_eq]; exact hXY
          clear he He Ha hXY
          go_wp2
          go_roundg (M - (j + 1))
          case measure => omega
          case rel =>
            go_light
            exact ⟨j + 1, by omega, by go_num, HE'.out, E1.out, E2.out, E3.out, E4.out, E5.out⟩
        · have hne : (X == Y) = false := by rw [beq_eq_false_iff_ne]; exact hXY
          have HA : Hid (clashOf k idx.data.toList p q = (X, Y)) := Ha.out hXY
          clear He Ha hXY
          go_wp2
          go_ret3
          exact ⟨E1.out, by rw [HV.out, HA.out]; rfl⟩
      · obtain rfl : j = M := by omega
        have HNo : Hid (clashOf k idx.data.toList p q = (4 :: p.value, 4 :: q.value)) := clashOf_none fun i h1 h2 => C0.out i (by omega)
        have e1 : wr.cell? ⟨g1, 2, none⟩ = some (.string ⟨p.value.toArray⟩) := (C2.out.cell 2).trans rfl
        have e2 : wr.cell? ⟨g2, 2, none⟩ = some (.string ⟨q.value.toArray⟩) := (C3.out.cell 2).trans rfl
        have fp : Hid ((⟨#[4]⟩ : ByteArray) ++ ⟨p.value.toArray⟩ = ⟨(4 :: p.value).toArray⟩) := by
          apply ByteArray.ext
          apply Array.toList_inj.1
          simp [ByteArray.data_append]
        have fq : Hid ((⟨#[4]⟩ : ByteArray) ++ ⟨q.value.toArray⟩ = ⟨(4 :: q.value).toArray⟩) := by
          apply ByteArray.ext
          apply Array.toList_inj.1
          simp [ByteArray.data_append]
        have sp : (⟨p.value.toArray⟩ : ByteArray).size ≤ 1000 := by show p.value.length ≤ 1000; omega
        have sq : (⟨q.value.toArray⟩ : ByteArray).size ≤ 1000 := by show q.value.length ≤ 1000; omega
        generalize (⟨p.value.toArray⟩ : ByteArray) = a1 at *
        generalize (⟨q.value.toArray⟩ : ByteArray) = a2 at *
        by_cases hpq : j ≤ p.sibs.length
        · have hqj : ¬ j ≤ q.sibs.length := by omega
          clear hMM
          go_wp2
          go_quiet (fail)
          go_wp2
          go_ret3
          exact ⟨below_drewN C1.out _, by rw [HV.out, HNo.out]; dsimp only; rw [← fp.out, ← fq.out]; rfl⟩
        · clear hMM
          go_wp2
          go_quiet (fail)
          go_wp2
          go_ret3
          exact ⟨below_drewN C1.out _, by rw [HV.out, HNo.out]; dsimp only; rw [← fp.out, ← fq.out]; rfl⟩
end Go.Proofs.YtghpcgagijhlaaaDoor
