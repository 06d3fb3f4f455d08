/- The document's own text at a depth of a way: thicketref's at answers textAt; nothing that was in memory turns. -/
import Derived.Test.YtghpcgagijhlaaaDoorRefRead
namespace Go.Proofs.YtghpcgagijhlaaaDoor
open Go.RowKit Sha

set_option maxRecDepth 100000 in
set_option maxHeartbeats 4000000 in
theorem at_any (k depth : Nat) (idx : ByteArray) (p : PW) (v : Value) (base : Nat) (w : World) (hk1 : 1 ≤ k) (hk2 : k ≤ 32) (hi : idx.size = 32) (hp : p.Ok k) (hd : depth ≤ 256)
    (hown : Own w base 9 v p.sibs.length (p.sibs.map fun x => .string ⟨x.toArray⟩)) :
    Calls Tryd.prog 29 #[.agg (wayCells p.kind v p.value p.other p.digest), .int .i64 k, .string idx, .int .i64 depth] w fun e w' => e = .returned (.string ⟨(p.textAt k idx.data.toList depth).toArray⟩) ∧ Below w.heap.size w w' := by
  generalize hI : idx.data.toList = I at *
  have HI : Hid (idx.data.toList = I) := hI
  have HIl : Hid (I.length = 32) := by show _ = _; rw [← hI, Array.length_toList]; exact hi
  clear hI
  obtain ⟨kd, S, a, b, c⟩ := p
  have hOk : Hid (PW.Ok k ⟨kd, S, a, b, c⟩) := hp
  have hSl : S.length ≤ 256 := hp.depth
  have ha : a.length ≤ 100 := hp.value
  have hb' : b.length ≤ 32 := hp.other
  have hc : c.length ≤ 32 := hp.digest
  have hkd : kd ≤ 2 := hp.kind
  clear hp
  obtain ⟨o, cap, rfl⟩ : ∃ o cap, v = .slice o S.length cap := by
    rcases hown.2 with ⟨rfl, h0⟩ | ⟨g, cap, _, _, rfl, _⟩
    · exact ⟨none, 0, by rw [h0]⟩
    · exact ⟨_, cap, rfl⟩
  have o0 : Hid (Own (w.alloc (.cells (wayCells kd (.slice o S.length cap) a b c) 53)) base 9 (.slice o S.length cap) S.length (S.map fun x => .string ⟨x.toArray⟩)) := hown.alloc _
  have b0 : Hid (Below w.heap.size w (w.alloc (.cells (wayCells kd (.slice o S.length cap) a b c) 53))) := (Below.refl _ _).alloc (Nat.le_refl _) _
  have k0 : Hid (Blk (w.alloc (.cells (wayCells kd (.slice o S.length cap) a b c) 53)) w.heap.size 53 (wayCells kd (.slice o S.length cap) a b c)) := Blk.new _ _ _
  dsimp only
  go_enter Tryd.func29, Tryd.ntmps29
  go_upto_region 1 with (fail)
  have hws : w.heap.size < (w.alloc (.cells (wayCells kd (.slice o S.length cap) a b c) 53)).heap.size := k0.out.lt
  generalize w.alloc (.cells (wayCells kd (.slice o S.length cap) a b c) 53) = w0 at *
  have e0 : w0.cell? ⟨w.heap.size, 0, none⟩ = some (.int .i64 (kd : Int)) := by rw [k0.out.cell]; rfl
  have e1 : w0.cell? ⟨w.heap.size, 1, none⟩ = some (.slice o S.length cap) := by rw [k0.out.cell]; rfl
  have e2 : w0.cell? ⟨w.heap.size, 2, none⟩ = some (.string ⟨a.toArray⟩) := by rw [k0.out.cell]; rfl
  have e3 : w0.cell? ⟨w.heap.size, 3, none⟩ = some (.string ⟨b.toArray⟩) := by rw [k0.out.cell]; rfl
  have e4 : w0.cell? ⟨w.heap.size, 4, none⟩ = some (.string ⟨c.toArray⟩) := by rw [k0.out.cell]; rfl
  have join : ∀ (X : ByteArray) (W : World) (P : Prop), X = ⟨(PW.endText k I ⟨kd, S, a, b, c⟩).toArray⟩ → Below w0.heap.size w0 W → (Hid (X = ⟨(PW.endText k I ⟨kd, S, a, b, c⟩).toArray⟩) → Hid (Below w.heap.size w W) → Hid (Blk W w.heap.size 53 (wayCells kd (.slice o S.length cap) a b c)) → Hid (Own W base 9 (.slice o S.length cap) S.length (S.map fun x => .string ⟨x.toArray⟩)) → P) → P :=
    fun X W P h1 h2 h => h h1 (b0.out.trans (h2.mono b0.out.size)) (k0.out.below h2 k0.out.lt) (o0.out.below h2 (Nat.le_refl _))
  have Join : Hid (∀ (X : ByteArray) (W : World) (P : Prop), X = ⟨(PW.endText k I ⟨kd, S, a, b, c⟩).toArray⟩ → Below w0.heap.size w0 W → (Hid (X = ⟨(PW.endText k I ⟨kd, S, a, b, c⟩).toArray⟩) → Hid (Below w.heap.size w W) → Hid (Blk W w.heap.size 53 (wayCells kd (.slice o S.length cap) a b c)) → Hid (Own W base 9 (.slice o S.length cap) S.length (S.map fun x => .string ⟨x.toArray⟩)) → P) → P) := join
  clear join
  obtain hk0 | hk1' | hk2' : kd = 0 ∨ kd = 1 ∨ kd = 2 := by omega
  · have Hk0 : Hid (kd = 0) := hk0
    rw [hk0] at e0
    clear hk0
    go_wp2_with fail
    refine Join.out ⟨#[0]⟩ w0 _ (by rw [PW.endText]; simp [Hk0.out]) (Below.refl _ _) ?_
    intro HX HB HK HO
    generalize (⟨#[0]⟩ : ByteArray) = X at *
    clear e0 e1 e2 e3 e4 Join b0 k0 o0
    go_loopg [9, 10] (S.length - depth) (fun q x i wr => ∃ j : Nat, j + q = S.length - depth ∧ i = .int .i64 ((S.length : Int) - 1 - (j : Int)) ∧ x = .string ⟨(PW.up k I ⟨kd, S, a, b, c⟩ j).toArray⟩ ∧ Below w.heap.size w wr ∧ Blk wr w.heap.size 53 (wayCells kd (.slice o S.length cap) a b c) ∧ Own wr base 9 (.slice o S.length cap) S.length (S.map fun x => .string ⟨x.toArray⟩))
    case atStart => exact ⟨0, by omega, by go_num, by rw [HX.out]; rfl, HB.out, HK.out, HO.out⟩
    case round =>
      obtain ⟨j, hj, rfl, rfl, c1, c3, c4⟩ := hrel
      clear HB HK HO
      have C1 : Hid (Below w.heap.size w wr) := c1
      have C3 : Hid (Blk wr w.heap.size 53 (wayCells kd (.slice o S.length cap) a b c)) := c3
      have C4 : Hid (Own wr base 9 (.slice o S.length cap) S.length (S.map fun x => .string ⟨x.toArray⟩)) := c4
      clear c1 c3 c4
      by_cases hlt : j < S.length - depth
      · obtain ⟨t, ht⟩ : ∃ t : Nat, t = S.length - 1 - j := ⟨_, rfl⟩
        have hti : (S.length : Int) - 1 - (j : Int) = (t : Int) := by omega
        rw [hti]
        have Ht : Hid (t = S.length - 1 - j) := ht
        have htl : t < S.length := by omega
        have htd : depth ≤ t := by omega
        have Hti : Hid ((t : Int) - 1 = (S.length : Int) - 1 - ((j + 1 : Nat) : Int)) := by show _ = _; omega
        clear ht hti
        have hul : (PW.up k I ⟨kd, S, a, b, c⟩ j).length ≤ 65 := up_length k I _ hk2 HIl.out hOk.out j (by show j ≤ S.length; omega)
        have HH : Hid (∀ (d : Nat) (os : Array Obj), Calls Tryd.prog 26 #[.int .i64 k, .string ⟨(PW.up k I ⟨kd, S, a, b, c⟩ j).toArray⟩] (Go.Sort.grow (redrawn wr d) os) fun e w'' => e = .returned (.string ⟨(dg k (PW.up k I ⟨kd, S, a, b, c⟩ j)).toArray⟩) ∧ ∃ p : Regrown, w'' = Go.Sort.grow (redrawn wr p.d) p.os) := fun d os =>
          Calls.regrown_of (H_any k _ _ hk1 hk2 (by show (PW.up k I ⟨kd, S, a, b, c⟩ j).length ≤ _; omega))
        have e1 : ∀ (d : Nat) (os : Array Obj), (Go.Sort.grow (redrawn wr d) os).cell? ⟨w.heap.size, 1, none⟩ = some (.slice o S.length cap) := fun d os => ((C3.out.below (below_regrown wr d os) C3.out.lt).cell 1).trans rfl
        obtain ⟨g, cap', ho⟩ := C4.out.form (by omega)
        injection ho with ho1 ho2 ho3
        subst ho1
        subst ho3
        clear ho2
        have eS : ∀ (d : Nat) (os : Array Obj), (Go.Sort.grow (redrawn wr d) os).cell? ⟨g, t, none⟩ = some (.string ⟨(S.getD t []).toArray⟩) := fun d os => by
          rw [(C4.out.below (below_regrown wr d os) (Nat.le_refl _)).cell t htl]
          simp [htl]
        obtain ⟨_, hg2, hcap⟩ := C4.out.base
        have U0 : Hid (bitN I t = 0 → PW.up k I ⟨kd, S, a, b, c⟩ (j + 1) = 2 :: (dg k (PW.up k I ⟨kd, S, a, b, c⟩ j) ++ S.getD t [])) := fun h => by
          rw [Ht.out] at h ⊢; rw [PW.up, if_pos h]
        have U1 : Hid (bitN I t = 1 → PW.up k I ⟨kd, S, a, b, c⟩ (j + 1) = 2 :: (S.getD t [] ++ dg k (PW.up k I ⟨kd, S, a, b, c⟩ j))) := fun h => by
          rw [Ht.out] at h ⊢; rw [PW.up]; dsimp only; rw [if_neg (by omega)]
        have hsl : (S.getD t []).length ≤ 32 := by
          rw [List.getD_eq_getElem?_getD, List.getElem?_eq_getElem htl]
          have := hOk.out.sib _ (List.getElem_mem (l := S) htl)
          simp only [Option.getD_some]
          omega
        have hdl : (dg k (PW.up k I ⟨kd, S, a, b, c⟩ j)).length = k := dg_length k _ hk2
        have hbn := bitN_lt I t
        generalize dg k (PW.up k I ⟨kd, S, a, b, c⟩ j) = Y at *
        generalize PW.up k I ⟨kd, S, a, b, c⟩ j = U at *
        generalize S.getD t [] = Z at *
        go_wp2_with fail
        refine (bit_any idx t wr (by rw [hi]; omega) (by rw [hi]; omega) (by omega)).mono ?_
        rw [HI.out]
        rintro e w2 ⟨rfl, hw2⟩
        obtain rfl : wr = w2 := hw2.symm
        clear hw2
        generalize bitN I t = x at *
        rcases hbn with rfl | rfl
        · go_wp2
          refine wp_region_quiet_below (by kernel_rfl) (by kernel_rfl) ?_
          repeat (any_goals (first | go_big_quiet_step ((exact HH.out _ _)) | quiet_step ((exact HH.out _ _))))
          refine wpQuiet_nil ?_
          intro W1 hw'
          obtain ⟨p, hp⟩ := hw'
          have hb : Hid (Below wr.heap.size wr W1) := by rw [hp]; exact below_regrown wr p.d p.os
          clear hp HH e1 eS
          go_wp2
          go_roundg (S.length - depth - (j + 1))
          case measure => omega
          case rel =>
            go_light
            refine ⟨j + 1, by omega, by rw [← Hti.out], ?_, C1.out.trans (hb.out.mono C1.out.size), C3.out.below hb.out C3.out.lt, C4.out.below hb.out (Nat.le_refl _)⟩
            rw [U0.out (by first | trivial | rfl)]
            refine congrArg Value.string (ByteArray.ext ?_)
            simp [ByteArray.data_append]
        · go_wp2
          refine wp_region_quiet_below (by kernel_rfl) (by kernel_rfl) ?_
          repeat (any_goals (first | go_big_quiet_step ((exact HH.out _ _)) | quiet_step ((exact HH.out _ _))))
          refine wpQuiet_nil ?_
          intro W1 hw'
          obtain ⟨p, hp⟩ := hw'
          have hb : Hid (Below wr.heap.size wr W1) := by rw [hp]; exact below_regrown wr p.d p.os
          clear hp HH e1 eS
          go_wp2
          go_roundg (S.length - depth - (j + 1))
          case measure => omega
          case rel =>
            go_light
            refine ⟨j + 1, by omega, by rw [← Hti.out], ?_, C1.out.trans (hb.out.mono C1.out.size), C3.out.below hb.out C3.out.lt, C4.out.below hb.out (Nat.le_refl _)⟩
            rw [U1.out (by first | trivial | rfl)]
            refine congrArg Value.string (ByteArray.ext ?_)
            simp [ByteArray.data_append]
      · obtain rfl : j = S.length - depth := by omega
        go_wp2
        go_ret
        exact ⟨rfl, C1.out⟩
  · have Hk0 : Hid (kd = 1) := hk1'
    rw [hk1'] at e0
    clear hk1'
    go_wp2_with fail
    refine (H_any k _ w0 hk1 hk2 (by rw [ByteArray.size_append]; show 1 + a.length ≤ _; omega)).mono ?_
    rintro e w1 ⟨rfl, hb⟩
    have Hb : Hid (Below w0.heap.size w0 w1) := hb
    have hY : Hid (List.take k (sha ((⟨#[4]⟩ : ByteArray) ++ ⟨a.toArray⟩).data.toList) = dg k (4 :: a)) := by
      show _ = _
      rw [dg]
      simp [ByteArray.data_append]
    have hYl : (List.take k (sha ((⟨#[4]⟩ : ByteArray) ++ ⟨a.toArray⟩).data.toList)).length ≤ 32 := by rw [List.length_take]; omega
    generalize List.take k (sha ((⟨#[4]⟩ : ByteArray) ++ ⟨a.toArray⟩).data.toList) = Y at *
    clear hb e0 e1 e2 e3 e4
    have e0 : w1.cell? ⟨w.heap.size, 0, none⟩ = some (.int .i64 1) := by rw [(k0.out.below Hb.out k0.out.lt).cell, Hk0.out]; rfl
    have e1 : w1.cell? ⟨w.heap.size, 1, none⟩ = some (.slice o S.length cap) := by rw [(k0.out.below Hb.out k0.out.lt).cell]; rfl
    go_wp2_with fail
    refine Join.out (⟨#[1]⟩ ++ idx ++ ⟨Y.toArray⟩) w1 _ (by
      rw [PW.endText, hY.out]
      dsimp only
      rw [if_pos Hk0.out, ← HI.out]
      apply ByteArray.ext
      apply Array.toList_inj.1
      simp [ByteArray.data_append]) Hb.out ?_
    intro HX HB HK HO
    generalize (⟨#[1]⟩ ++ idx ++ ⟨Y.toArray⟩ : ByteArray) = X at *
    clear e0 e1 Join b0 k0 o0
    go_loopg [9, 10] (S.length - depth) (fun q x i wr => ∃ j : Nat, j + q = S.length - depth ∧ i = .int .i64 ((S.length : Int) - 1 - (j : Int)) ∧ x = .string ⟨(PW.up k I ⟨kd, S, a, b, c⟩ j).toArray⟩ ∧ Below w.heap.size w wr ∧ Blk wr w.heap.size 53 (wayCells kd (.slice o S.length cap) a b c) ∧ Own wr base 9 (.slice o S.length cap) S.length (S.map fun x => .string ⟨x.toArray⟩))
    case atStart => exact ⟨0, by omega, by go_num, by rw [HX.out]; rfl, HB.out, HK.out, HO.out⟩
    case round =>
      obtain ⟨j, hj, rfl, rfl, c1, c3, c4⟩ := hrel
      clear HB HK HO
      have C1 : Hid (Below w.heap.size w wr) := c1
      have C3 : Hid (Blk wr w.heap.size 53 (wayCells kd (.slice o S.length cap) a b c)) := c3
      have C4 : Hid (Own wr base 9 (.slice o S.length cap) S.length (S.map fun x => .string ⟨x.toArray⟩)) := c4
      clear c1 c3 c4
      by_cases hlt : j < S.length - depth
      · obtain ⟨t, ht⟩ : ∃ t : Nat, t = S.length - 1 - j := ⟨_, rfl⟩
        have hti : (S.length : Int) - 1 - (j : Int) = (t : Int) := by omega
        rw [hti]
        have Ht : Hid (t = S.length - 1 - j) := ht
        have htl : t < S.length := by omega
        have htd : depth ≤ t := by omega
        have Hti : Hid ((t : Int) - 1 = (S.length : Int) - 1 - ((j + 1 : Nat) : Int)) := by show _ = _; omega
        clear ht hti
        have hul : (PW.up k I ⟨kd, S, a, b, c⟩ j).length ≤ 65 := up_length k I _ hk2 HIl.out hOk.out j (by show j ≤ S.length; omega)
        have HH : Hid (∀ (d : Nat) (os : Array Obj), Calls Tryd.prog 26 #[.int .i64 k, .string ⟨(PW.up k I ⟨kd, S, a, b, c⟩ j).toArray⟩] (Go.Sort.grow (redrawn wr d) os) fun e w'' => e = .returned (.string ⟨(dg k (PW.up k I ⟨kd, S, a, b, c⟩ j)).toArray⟩) ∧ ∃ p : Regrown, w'' = Go.Sort.grow (redrawn wr p.d) p.os) := fun d os =>
          Calls.regrown_of (H_any k _ _ hk1 hk2 (by show (PW.up k I ⟨kd, S, a, b, c⟩ j).length ≤ _; omega))
        have e1 : ∀ (d : Nat) (os : Array Obj), (Go.Sort.grow (redrawn wr d) os).cell? ⟨w.heap.size, 1, none⟩ = some (.slice o S.length cap) := fun d os => ((C3.out.below (below_regrown wr d os) C3.out.lt).cell 1).trans rfl
        obtain ⟨g, cap', ho⟩ := C4.out.form (by omega)
        injection ho with ho1 ho2 ho3
        subst ho1
        subst ho3
        clear ho2
        have eS : ∀ (d : Nat) (os : Array Obj), (Go.Sort.grow (redrawn wr d) os).cell? ⟨g, t, none⟩ = some (.string ⟨(S.getD t []).toArray⟩) := fun d os => by
          rw [(C4.out.below (below_regrown wr d os) (Nat.le_refl _)).cell t htl]
          simp [htl]
        obtain ⟨_, hg2, hcap⟩ := C4.out.base
        have U0 : Hid (bitN I t = 0 → PW.up k I ⟨kd, S, a, b, c⟩ (j + 1) = 2 :: (dg k (PW.up k I ⟨kd, S, a, b, c⟩ j) ++ S.getD t [])) := fun h => by
          rw [Ht.out] at h ⊢; rw [PW.up, if_pos h]
        have U1 : Hid (bitN I t = 1 → PW.up k I ⟨kd, S, a, b, c⟩ (j + 1) = 2 :: (S.getD t [] ++ dg k (PW.up k I ⟨kd, S, a, b, c⟩ j))) := fun h => by
          rw [Ht.out] at h ⊢; rw [PW.up]; dsimp only; rw [if_neg (by omega)]
        have hsl : (S.getD t []).length ≤ 32 := by
          rw [List.getD_eq_getElem?_getD, List.getElem?_eq_getElem htl]
          have := hOk.out.sib _ (List.getElem_mem (l := S) htl)
          simp only [Option.getD_some]
          omega
        have hdl : (dg k (PW.up k I ⟨kd, S, a, b, c⟩ j)).length = k := dg_length k _ hk2
        have hbn := bitN_lt I t
        generalize dg k (PW.up k I ⟨kd, S, a, b, c⟩ j) = Y at *
        generalize PW.up k I ⟨kd, S, a, b, c⟩ j = U at *
        generalize S.getD t [] = Z at *
        go_wp2_with fail
        refine (bit_any idx t wr (by rw [hi]; omega) (by rw [hi]; omega) (by omega)).mono ?_
        rw [HI.out]
        rintro e w2 ⟨rfl, hw2⟩
        obtain rfl : wr = w2 := hw2.symm
        clear hw2
        generalize bitN I t = x at *
        rcases hbn with rfl | rfl
        · go_wp2
          refine wp_region_quiet_below (by kernel_rfl) (by kernel_rfl) ?_
          repeat (any_goals (first | go_big_quiet_step ((exact HH.out _ _)) | quiet_step ((exact HH.out _ _))))
          refine wpQuiet_nil ?_
          intro W1 hw'
          obtain ⟨p, hp⟩ := hw'
          have hb : Hid (Below wr.heap.size wr W1) := by rw [hp]; exact below_regrown wr p.d p.os
          clear hp HH e1 eS
          go_wp2
          go_roundg (S.length - depth - (j + 1))
          case measure => omega
          case rel =>
            go_light
            refine ⟨j + 1, by omega, by rw [← Hti.out], ?_, C1.out.trans (hb.out.mono C1.out.size), C3.out.below hb.out C3.out.lt, C4.out.below hb.out (Nat.le_refl _)⟩
            rw [U0.out (by first | trivial | rfl)]
            refine congrArg Value.string (ByteArray.ext ?_)
            simp [ByteArray.data_append]
        · go_wp2
          refine wp_region_quiet_below (by kernel_rfl) (by kernel_rfl) ?_
          repeat (any_goals (first | go_big_quiet_step ((exact HH.out _ _)) | quiet_step ((exact HH.out _ _))))
          refine wpQuiet_nil ?_
          intro W1 hw'
          obtain ⟨p, hp⟩ := hw'
          have hb : Hid (Below wr.heap.size wr W1) := by rw [hp]; exact below_regrown wr p.d p.os
          clear hp HH e1 eS
          go_wp2
          go_roundg (S.length - depth - (j + 1))
          case measure => omega
          case rel =>
            go_light
            refine ⟨j + 1, by omega, by rw [← Hti.out], ?_, C1.out.trans (hb.out.mono C1.out.size), C3.out.below hb.out C3.out.lt, C4.out.below hb.out (Nat.le_refl _)⟩
            rw [U1.out (by first | trivial | rfl)]
            refine congrArg Value.string (ByteArray.ext ?_)
            simp [ByteArray.data_append]
      · obtain rfl : j = S.length - depth := by omega
        go_wp2
        go_ret
        exact ⟨rfl, C1.out⟩
  · have Hk0 : Hid (kd = 2) := hk2'
    rw [hk2'] at e0
    clear hk2'
    go_wp2_with fail
    refine Join.out (⟨#[1]⟩ ++ ⟨b.toArray⟩ ++ ⟨c.toArray⟩) w0 _ (by
      rw [PW.endText]
      dsimp only
      rw [if_neg (by rw [Hk0.out]; decide), if_pos Hk0.out]
      apply ByteArray.ext
      apply Array.toList_inj.1
      simp [ByteArray.data_append]) (Below.refl _ _) ?_
    intro HX HB HK HO
    generalize (⟨#[1]⟩ ++ ⟨b.toArray⟩ ++ ⟨c.toArray⟩ : ByteArray) = X at *
    clear e0 e1 e2 e3 e4 Join b0 k0 o0
    go_loopg [9, 10] (S.length - depth) (fun q x i wr => ∃ j : Nat, j + q = S.length - depth ∧ i = .int .i64 ((S.length : Int) - 1 - (j : Int)) ∧ x = .string ⟨(PW.up k I ⟨kd, S, a, b, c⟩ j).toArray⟩ ∧ Below w.heap.size w wr ∧ Blk wr w.heap.size 53 (wayCells kd (.slice o S.length cap) a b c) ∧ Own wr base 9 (.slice o S.length cap) S.length (S.map fun x => .string ⟨x.toArray⟩))
    case atStart => exact ⟨0, by omega, by go_num, by rw [HX.out]; rfl, HB.out, HK.out, HO.out⟩
    case round =>
      obtain ⟨j, hj, rfl, rfl, c1, c3, c4⟩ := hrel
      clear HB HK HO
      have C1 : Hid (Below w.heap.size w wr) := c1
      have C3 : Hid (Blk wr w.heap.size 53 (wayCells kd (.slice o S.length cap) a b c)) := c3
      have C4 : Hid (Own wr base 9 (.slice o S.length cap) S.length (S.map fun x => .string ⟨x.toArray⟩)) := c4
      clear c1 c3 c4
      by_cases hlt : j < S.length - depth
      · obtain ⟨t, ht⟩ : ∃ t : Nat, t = S.length - 1 - j := ⟨_, rfl⟩
        have hti : (S.length : Int) - 1 - (j : Int) = (t : Int) := by omega
        rw [hti]
        have Ht : Hid (t = S.length - 1 - j) := ht
        have htl : t < S.length := by omega
        have htd : depth ≤ t := by omega
        have Hti : Hid ((t : Int) - 1 = (S.length : Int) - 1 - ((j + 1 : Nat) : Int)) := by show _ = _; omega
        clear ht hti
        have hul : (PW.up k I ⟨kd, S, a, b, c⟩ j).length ≤ 65 := up_length k I _ hk2 HIl.out hOk.out j (by show j ≤ S.length; omega)
        have HH : Hid (∀ (d : Nat) (os : Array Obj), Calls Tryd.prog 26 #[.int .i64 k, .string ⟨(PW.up k I ⟨kd, S, a, b, c⟩ j).toArray⟩] (Go.Sort.grow (redrawn wr d) os) fun e w'' => e = .returned (.string ⟨(dg k (PW.up k I ⟨kd, S, a, b, c⟩ j)).toArray⟩) ∧ ∃ p : Regrown, w'' = Go.Sort.grow (redrawn wr p.d) p.os) := fun d os =>
          Calls.regrown_of (H_any k _ _ hk1 hk2 (by show (PW.up k I ⟨kd, S, a, b, c⟩ j).length ≤ _; omega))
        have e1 : ∀ (d : Nat) (os : Array Obj), (Go.Sort.grow (redrawn wr d) os).cell? ⟨w.heap.size, 1, none⟩ = some (.slice o S.length cap) := fun d os => ((C3.out.below (below_regrown wr d os) C3.out.lt).cell 1).trans rfl
        obtain ⟨g, cap', ho⟩ := C4.out.form (by omega)
        injection ho with ho1 ho2 ho3
        subst ho1
        subst ho3
        clear ho2
        have eS : ∀ (d : Nat) (os : Array Obj), (Go.Sort.grow (redrawn wr d) os).cell? ⟨g, t, none⟩ = some (.string ⟨(S.getD t []).toArray⟩) := fun d os => by
          rw [(C4.out.below (below_regrown wr d os) (Nat.le_refl _)).cell t htl]
          simp [htl]
        obtain ⟨_, hg2, hcap⟩ := C4.out.base
        have U0 : Hid (bitN I t = 0 → PW.up k I ⟨kd, S, a, b, c⟩ (j + 1) = 2 :: (dg k (PW.up k I ⟨kd, S, a, b, c⟩ j) ++ S.getD t [])) := fun h => by
          rw [Ht.out] at h ⊢; rw [PW.up, if_pos h]
        have U1 : Hid (bitN I t = 1 → PW.up k I ⟨kd, S, a, b, c⟩ (j + 1) = 2 :: (S.getD t [] ++ dg k (PW.up k I ⟨kd, S, a, b, c⟩ j))) := fun h => by
          rw [Ht.out] at h ⊢; rw [PW.up]; dsimp only; rw [if_neg (by omega)]
        have hsl : (S.getD t []).length ≤ 32 := by
          rw [List.getD_eq_getElem?_getD, List.getElem?_eq_getElem htl]
          have := hOk.out.sib _ (List.getElem_mem (l := S) htl)
          simp only [Option.getD_some]
          omega
        have hdl : (dg k (PW.up k I ⟨kd, S, a, b, c⟩ j)).length = k := dg_length k _ hk2
        have hbn := bitN_lt I t
        generalize dg k (PW.up k I ⟨kd, S, a, b, c⟩ j) = Y at *
        generalize PW.up k I ⟨kd, S, a, b, c⟩ j = U at *
        generalize S.getD t [] = Z at *
        go_wp2_with fail
        refine (bit_any idx t wr (by rw [hi]; omega) (by rw [hi]; omega) (by omega)).mono ?_
        rw [HI.out]
        rintro e w2 ⟨rfl, hw2⟩
        obtain rfl : wr = w2 := hw2.symm
        clear hw2
        generalize bitN I t = x at *
        rcases hbn with rfl | rfl
        · go_wp2
          refine wp_region_quiet_below (by kernel_rfl) (by kernel_rfl) ?_
          repeat (any_goals (first | go_big_quiet_step ((exact HH.out _ _)) | quiet_step ((exact HH.out _ _))))
          refine wpQuiet_nil ?_
          intro W1 hw'
          obtain ⟨p, hp⟩ := hw'
          have hb : Hid (Below wr.heap.size wr W1) := by rw [hp]; exact below_regrown wr p.d p.os
          clear hp HH e1 eS
          go_wp2
          go_roundg (S.length - depth - (j + 1))
          case measure => omega
          case rel =>
            go_light
            refine ⟨j + 1, by omega, by rw [← Hti.out], ?_, C1.out.trans (hb.out.mono C1.out.size), C3.out.below hb.out C3.out.lt, C4.out.below hb.out (Nat.le_refl _)⟩
            rw [U0.out (by first | trivial | rfl)]
            refine congrArg Value.string (ByteArray.ext ?_)
            simp [ByteArray.data_append]
        · go_wp2
          refine wp_region_quiet_below (by kernel_rfl) (by kernel_rfl) ?_
          repeat (any_goals (first | go_big_quiet_step ((exact HH.out _ _)) | quiet_step ((exact HH.out _ _))))
          refine wpQuiet_nil ?_
          intro W1 hw'
          obtain ⟨p, hp⟩ := hw'
          have hb : Hid (Below wr.heap.size wr W1) := by rw [hp]; exact below_regrown wr p.d p.os
          clear hp HH e1 eS
          go_wp2
          go_roundg (S.length - depth - (j + 1))
          case measure => omega
          case rel =>
            go_light
            refine ⟨j + 1, by omega, by rw [← Hti.out], ?_, C1.out.trans (hb.out.mono C1.out.size), C3.out.below hb.out C3.out.lt, C4.out.below hb.out (Nat.le_refl _)⟩
            rw [U1.out (by first | trivial | rfl)]
            refine congrArg Value.string (ByteArray.ext ?_)
            simp [ByteArray.data_append]
      · obtain rfl : j = S.length - depth := by omega
        go_wp2
        go_ret
        exact ⟨rfl, C1.out⟩
end Go.Proofs.YtghpcgagijhlaaaDoor
