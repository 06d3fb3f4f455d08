/- P5's own promise on two texts under a root: thicketkeep.sound returns true for whatever texts of at most 2^47 - 4096 bytes; nothing that was in memory turns; the two tables lie in memory as the program's text lays them. -/
import Derived.Test.YtghpcgagijhlaaaDoorPClash
import Derived.OwnWalk
namespace Go.Proofs.YtghpcgagijhlaaaDoor
open Go.RowKit Sha

theorem lookErr_zero {root idx s : List UInt8} (h : lookErr root idx s = 0) : (1 ≤ root.length ∧ root.length ≤ 32 ∧ idx.length = 32) ∧ ∃ p, parse root.length idx s = some p ∧ p.root root.length idx = root := by
  unfold lookErr at h
  split at h
  · cases h
  · rename_i h1
    refine ⟨by omega, ?_⟩
    cases hp : parse root.length idx s with
    | none => rw [hp] at h; cases h
    | some p =>
      rw [hp] at h
      refine ⟨p, rfl, ?_⟩
      by_cases hr : p.root root.length idx = root
      · exact hr
      · dsimp only at h; rw [if_neg hr] at h; cases h

set_option maxRecDepth 100000 in
set_option maxHeartbeats 4000000 in
theorem sound_any (root idx s t : ByteArray) (w : World) (hs : s.size ≤ 140737488351232) (ht : t.size ≤ 140737488351232) (hr : root.size ≤ 140737488351232) (hT : Tabs w) :
    Calls Tryd.prog 23 #[.string root, .string idx, .string s, .string t] w fun e w' => e = .returned (.bool true) ∧ Below w.heap.size w w' := by
  have hrl : root.data.toList.length = root.size := by simp
  have HT : Hid (Tabs w) := hT
  clear hT
  go_enter Tryd.func23, Tryd.ntmps23
  go_wp2_with fail
  refine (pVerify_any root idx s w hs hr HT.out).mono ?_
  rintro e w1 ⟨hb1, rfl⟩
  obtain ⟨n1, l1, m1, hv1⟩ : ∃ n l m, verdict root.data.toList idx.data.toList s.data.toList = (n, l, m) := ⟨_, _, _, rfl⟩
  have HV1 : Hid (verdict root.data.toList idx.data.toList s.data.toList = (n1, l1, m1)) := hv1
  clear hv1
  rw [HV1.out]
  have B1 : Hid (Below w.heap.size w (w1.alloc (.cells #[.int .i64 (n1 : Int), .string ⟨l1.toArray⟩] 39))) := hb1.alloc hb1.size _
  have K1 : Hid (Blk (w1.alloc (.cells #[.int .i64 (n1 : Int), .string ⟨l1.toArray⟩] 39)) w1.heap.size 39 #[.int .i64 (n1 : Int), .string ⟨l1.toArray⟩]) := Blk.new _ _ _
  clear hb1
  simp only [verdictCells]
  go_wp2_with fail
  generalize w1.alloc (.cells #[.int .i64 (n1 : Int), .string ⟨l1.toArray⟩] 39) = w2 at *
  generalize w1.heap.size = g1 at *
  refine (pVerify_any root idx t w2 ht hr (HT.out.below B1.out (Nat.le_refl _))).mono ?_
  rintro e w3 ⟨hb3, rfl⟩
  obtain ⟨n2, l2, m2, hv2⟩ : ∃ n l m, verdict root.data.toList idx.data.toList t.data.toList = (n, l, m) := ⟨_, _, _, rfl⟩
  have HV2 : Hid (verdict root.data.toList idx.data.toList t.data.toList = (n2, l2, m2)) := hv2
  clear hv2
  rw [HV2.out]
  have B3 : Hid (Below w.heap.size w (w3.alloc (.cells #[.int .i64 (n2 : Int), .string ⟨l2.toArray⟩] 39))) := (below_then' B1.out hb3 B1.out.size).out.alloc (below_then' B1.out hb3 B1.out.size).out.size _
  have K3 : Hid (Blk (w3.alloc (.cells #[.int .i64 (n2 : Int), .string ⟨l2.toArray⟩] 39)) g1 39 #[.int .i64 (n1 : Int), .string ⟨l1.toArray⟩]) := (K1.out.below hb3 K1.out.lt).alloc _
  have L3 : Hid (Blk (w3.alloc (.cells #[.int .i64 (n2 : Int), .string ⟨l2.toArray⟩] 39)) w3.heap.size 39 #[.int .i64 (n2 : Int), .string ⟨l2.toArray⟩]) := Blk.new _ _ _
  clear hb3 B1 K1
  simp only [verdictCells]
  go_wp2_with fail
  generalize w3.alloc (.cells #[.int .i64 (n2 : Int), .string ⟨l2.toArray⟩] 39) = w4 at *
  generalize w3.heap.size = g2 at *
  refine (pClash_any root idx s t w4 hs ht hr (HT.out.below B3.out (Nat.le_refl _))).mono ?_
  rintro e w5 ⟨hb5, rfl⟩
  have B5 := below_then' B3.out hb5 B3.out.size
  have K5 : Hid (Blk w5 g1 39 #[.int .i64 (n1 : Int), .string ⟨l1.toArray⟩]) := K3.out.below hb5 K3.out.lt
  have L5 : Hid (Blk w5 g2 39 #[.int .i64 (n2 : Int), .string ⟨l2.toArray⟩]) := L3.out.below hb5 L3.out.lt
  clear hb5 B3 K3 L3
  have e0 : w5.cell? ⟨g1, 0, none⟩ = some (.int .i64 (n1 : Int)) := (K5.out.cell 0).trans rfl
  have e1 : w5.cell? ⟨g1, 1, none⟩ = some (.string ⟨l1.toArray⟩) := (K5.out.cell 1).trans rfl
  have f0 : w5.cell? ⟨g2, 0, none⟩ = some (.int .i64 (n2 : Int)) := (L5.out.cell 0).trans rfl
  have f1 : w5.cell? ⟨g2, 1, none⟩ = some (.string ⟨l2.toArray⟩) := (L5.out.cell 1).trans rfl
  by_cases h1 : lookErr root.data.toList idx.data.toList s.data.toList = 0
  · by_cases h2 : lookErr root.data.toList idx.data.toList t.data.toList = 0
    · obtain ⟨⟨ha1, ha2, ha3⟩, p, hp, hpr⟩ := lookErr_zero h1
      obtain ⟨_, q, hq, hqr⟩ := lookErr_zero h2
      have hv1 := verdict_ok h1 hp hpr
      have hv2 := verdict_ok h2 hq hqr
      rw [HV1.out] at hv1
      rw [HV2.out] at hv2
      obtain ⟨rfl, rfl, rfl⟩ : n1 = p.said.1 ∧ l1 = p.said.2 ∧ m1 = 0 := by simpa using hv1
      obtain ⟨rfl, rfl, rfl⟩ : n2 = q.said.1 ∧ l2 = q.said.2 ∧ m2 = 0 := by simpa using hv2
      clear hv1 hv2 HV1 HV2
      by_cases hsame : p.said = q.said
      · have HC : Hid (clashed root.data.toList idx.data.toList s.data.toList t.data.toList = ([], [], 1)) := clashed_same h1 h2 hp hq hsame
        rw [HC.out]
        have hs1 : q.said.1 = p.said.1 := by rw [hsame]
        have hs2 : q.said.2 = p.said.2 := by rw [hsame]
        rw [hs1] at f0
        rw [hs2] at f1
        clear hsame h1 h2 hp hq hpr hqr hs1 hs2 HC
        generalize p.said.1 = n at *
        generalize p.said.2 = l at *
        go_wp2
        go_ret
        exact ⟨rfl, B5.out⟩
      · have hk := clash_sound ha2 ha3 (parse_ok ha2 hp) (parse_ok ha2 hq) (parse_two hp) (parse_two hq) (hpr.trans hqr.symm) hsame
        have hlen := clashOf_len ha2 ha3 (parse_ok ha2 hp) (parse_ok ha2 hq)
        have HC : Hid (clashed root.data.toList idx.data.toList s.data.toList t.data.toList = ((clashOf root.data.toList.length idx.data.toList p q).1, (clashOf root.data.toList.length idx.data.toList p q).2, 0)) := clashed_texts h1 h2 hp hq hsame
        rw [HC.out]
        rw [hrl] at hk hlen ha1 ha2 ⊢
        have hne : ((p.said.1 : Int) == (q.said.1 : Int)) = false ∨ (p.said.1 = q.said.1 ∧ (p.said.2 == q.said.2) = false) := by
          by_cases hn : p.said.1 = q.said.1
          · refine .inr ⟨hn, ?_⟩
            rw [beq_eq_false_iff_ne]
            exact fun h => hsame (Prod.ext hn h)
          · refine .inl ?_
            rw [beq_eq_false_iff_ne]
            omega
        clear hsame h1 h2 hp hq hpr hqr HC
        generalize p.said.1 = n1 at *
        generalize p.said.2 = l1 at *
        generalize q.said.1 = n2 at *
        generalize q.said.2 = l2 at *
        generalize (clashOf root.size idx.data.toList p q).1 = X at *
        generalize (clashOf root.size idx.data.toList p q).2 = Y at *
        obtain ⟨hXY, hdd⟩ := hk
        obtain ⟨hX, hY⟩ := hlen
        have hxy : (X == Y) = false := by rw [beq_eq_false_iff_ne]; exact hXY
        have HD : Hid (dig root.size X = dig root.size Y) := by show _ = _; rw [dig_dg, dig_dg, hdd]
        clear hXY hdd
        rcases hne with hne | ⟨rfl, hne⟩
        · skip
          go_wp2_with fail
          refine (digest_yes root.size ⟨X.toArray⟩ w5 ha1 ha2 (by show X.length ≤ _; omega) (HT.out.below B5.out (Nat.le_refl _))).mono ?_
          rintro e w6 ⟨rfl, hb6⟩
          have B6 := below_then' B5.out hb6 B5.out.size
          clear hb6
          go_wp2_with fail
          refine (digest_yes root.size ⟨Y.toArray⟩ w6 ha1 ha2 (by show Y.length ≤ _; omega) (HT.out.below B6.out (Nat.le_refl _))).mono ?_
          rintro e w7 ⟨rfl, hb7⟩
          have B7 := below_then' B6.out hb7 B6.out.size
          clear hb7
          rw [show dig root.size (⟨X.toArray⟩ : ByteArray).data.toList = dig root.size Y from HD.out, show dig root.size (⟨Y.toArray⟩ : ByteArray).data.toList = dig root.size Y from rfl]
          generalize dig root.size Y = Z at *
          go_wp2
          go_ret
          exact ⟨rfl, B7.out⟩
        · skip
          go_wp2_with fail
          refine (digest_yes root.size ⟨X.toArray⟩ w5 ha1 ha2 (by show X.length ≤ _; omega) (HT.out.below B5.out (Nat.le_refl _))).mono ?_
          rintro e w6 ⟨rfl, hb6⟩
          have B6 := below_then' B5.out hb6 B5.out.size
          clear hb6
          go_wp2_with fail
          refine (digest_yes root.size ⟨Y.toArray⟩ w6 ha1 ha2 (by show Y.length ≤ _; omega) (HT.out.below B6.out (Nat.le_refl _))).mono ?_
          rintro e w7 ⟨rfl, hb7⟩
          have B7 := below_then' B6.out hb7 B6.out.size
          clear hb7
          rw [show dig root.size (⟨X.toArray⟩ : ByteArray).data.toList = dig root.size Y from HD.out, show dig root.size (⟨Y.toArray⟩ : ByteArray).data.toList = dig root.size Y from rfl]
          generalize dig root.size Y = Z at *
          go_wp2
          go_ret
          exact ⟨rfl, B7.out⟩
    · have HC : Hid (clashed root.data.toList idx.data.toList s.data.toList t.data.toList = ([], [], lookErr root.data.toList idx.data.toList t.data.toList)) := clashed_two h1 h2
      obtain ⟨⟨ha1, ha2, ha3⟩, p, hp, hpr⟩ := lookErr_zero h1
      have hv1 := verdict_ok h1 hp hpr
      have hv2 := verdict_err h2
      rw [HV1.out] at hv1
      rw [HV2.out] at hv2
      obtain ⟨rfl, rfl, rfl⟩ : n1 = p.said.1 ∧ l1 = p.said.2 ∧ m1 = 0 := by simpa using hv1
      obtain ⟨rfl, rfl, rfl⟩ : n2 = 0 ∧ l2 = [] ∧ m2 = lookErr root.data.toList idx.data.toList t.data.toList := by simpa using hv2
      rw [HC.out]
      generalize lookErr root.data.toList idx.data.toList t.data.toList = m at *
      have hne : ((m : Int) != 0) = true := by rw [bne_iff_ne]; omega
      clear h1 h2 hv1 hv2 HV1 HV2 HC hp hpr
      go_wp2
      go_ret
      exact ⟨rfl, B5.out⟩
  · have HC : Hid (clashed root.data.toList idx.data.toList s.data.toList t.data.toList = ([], [], lookErr root.data.toList idx.data.toList s.data.toList)) := clashed_one h1
    have hv1 := verdict_err h1
    rw [HV1.out] at hv1
    obtain ⟨rfl, rfl, rfl⟩ : n1 = 0 ∧ l1 = [] ∧ m1 = lookErr root.data.toList idx.data.toList s.data.toList := by simpa using hv1
    rw [HC.out]
    generalize lookErr root.data.toList idx.data.toList s.data.toList = m at *
    have hne : ((m : Int) != 0) = true := by rw [bne_iff_ne]; omega
    clear h1 hv1 HV1 HC
    go_wp2
    go_ret
    exact ⟨rfl, B5.out⟩
end Go.Proofs.YtghpcgagijhlaaaDoor
