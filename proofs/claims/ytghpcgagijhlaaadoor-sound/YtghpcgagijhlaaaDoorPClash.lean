/- The program's Clash answers the plain function; nothing that was in memory turns. -/
import Derived.Test.YtghpcgagijhlaaaDoorPApart
import Derived.OwnWalk
namespace Go.Proofs.YtghpcgagijhlaaaDoor
open Go.RowKit Sha

/-- what a way says, of its kind and its value alone -/
def sayN (kd : Nat) : Nat := if kd = 1 then 1 else 2
def sayV (kd : Nat) (a : List UInt8) : List UInt8 := if kd = 1 then a else []
theorem say_eq (p : PW) : p.said = (sayN p.kind, sayV p.kind p.value) := by
  unfold PW.said sayN sayV
  split <;> rfl

set_option maxRecDepth 100000 in
set_option maxHeartbeats 4000000 in
theorem pClash_any (root idx s t : ByteArray) (w : World) (hs : s.size ≤ 140737488351232) (ht : t.size ≤ 140737488351232) (hr : root.size ≤ 140737488351232) (hT : Tabs w) :
    Calls Tryd.prog 21 #[.string root, .string idx, .string s, .string t] w fun e w' => Below w.heap.size w w' ∧
      e = .returned (.tuple #[.string ⟨(clashed root.data.toList idx.data.toList s.data.toList t.data.toList).1.toArray⟩, .string ⟨(clashed root.data.toList idx.data.toList s.data.toList t.data.toList).2.1.toArray⟩, .int .i64 ((clashed root.data.toList idx.data.toList s.data.toList t.data.toList).2.2 : Nat)]) := by
  have hrl : root.data.toList.length = root.size := by simp
  have hil : idx.data.toList.length = idx.size := by simp
  have HT : Hid (Tabs w) := hT
  clear hT
  go_enter Tryd.func21, Tryd.ntmps21
  go_wp2_with fail
  by_cases hno : root.size < 1 ∨ 32 < root.size ∨ idx.size ≠ 32
  · have HV : Hid (clashed root.data.toList idx.data.toList s.data.toList t.data.toList = ([], [], 1)) := by
      show _ = _
      have he : lookErr root.data.toList idx.data.toList s.data.toList = 1 := lookErr_arg (by rw [hrl, hil]; exact hno)
      rw [clashed_one (by rw [he]; decide), he]
    refine (mayAsk_no root idx _ hr hno).mono ?_
    rintro e w2 ⟨rfl, hw2⟩
    obtain rfl := hw2.symm
    clear hw2
    go_wp2
    go_ret3
    exact ⟨Below.refl _ _, by rw [HV.out]; rfl⟩
  refine (mayAsk_yes root idx _ (by omega) (by omega) (by omega)).mono ?_
  rintro e w2 ⟨rfl, hw2⟩
  obtain rfl := hw2.symm
  clear hw2
  go_wp2_with fail
  refine (pread_any root idx s w hs (by omega) (by omega) (by omega) HT.out).mono ?_
  rintro e w1 ⟨hb, hcase⟩
  have B1 : Hid (Below w.heap.size w w1) := hb
  clear hb
  rcases hcase with ⟨hn, rfl⟩ | ⟨p, v, hn, hp, hroot, rfl, hown⟩
  · have HV : Hid (clashed root.data.toList idx.data.toList s.data.toList t.data.toList = ([], [], lookErr root.data.toList idx.data.toList s.data.toList)) := clashed_one hn
    generalize lookErr root.data.toList idx.data.toList s.data.toList = n at *
    have hne : ((n : Int) != 0) = true := by rw [bne_iff_ne]; omega
    have B2 : Hid (Below w.heap.size w ((w1.alloc (.cells zeroPw 61)).setRow w1.heap.size zeroPw)) := below_setRow (B1.out.alloc B1.out.size _) B1.out.size _
    have y1 : Hid (Blk (w1.alloc (.cells zeroPw 61)) w1.heap.size 61 zeroPw) := Blk.new _ _ _
    clear hn
    go_wp2_with (refine wpList_store_row rfl 61 _ _ rfl w1.heap.size zeroPw rfl rfl _ _ y1.out (by kernel_rfl) rfl (by kernel_rfl) ?_)
    go_ret3
    exact ⟨B2.out, by rw [HV.out]; rfl⟩
  have HN : Hid (lookErr root.data.toList idx.data.toList s.data.toList = 0) := hn
  have HP : Hid (parse root.data.toList.length idx.data.toList s.data.toList = some p) := hp
  have hOk := parse_ok (by rw [hrl]; omega) hp
  have HRt : Hid (p.root root.data.toList.length idx.data.toList = root.data.toList) := hroot
  rw [hrl] at hOk ⊢
  obtain ⟨k, hk⟩ : ∃ k, root.size = k := ⟨_, rfl⟩
  have Hk : Hid (root.size = k) := hk
  rw [hk] at hOk ⊢
  have hk1 : 1 ≤ k := by omega
  have hk2 : k ≤ 32 := by omega
  have h32 : idx.size = 32 := by omega
  have HOk : Hid (p.Ok k) := hOk
  have HO : Hid (Own w1 w.heap.size 9 v p.sibs.length (p.sibs.map fun x => .string ⟨x.toArray⟩)) := hown
  have y1 : Hid (Blk (w1.alloc (.cells zeroPw 61)) w1.heap.size 61 zeroPw) := Blk.new _ _ _
  have K2 : Hid (Blk ((w1.alloc (.cells zeroPw 61)).setRow w1.heap.size (pwCells k p.kind v p.value p.other p.digest)) w1.heap.size 61 (pwCells k p.kind v p.value p.other p.digest)) := y1.out.row_same _
  have B2 : Hid (Below w.heap.size w ((w1.alloc (.cells zeroPw 61)).setRow w1.heap.size (pwCells k p.kind v p.value p.other p.digest))) := below_setRow (B1.out.alloc B1.out.size _) B1.out.size _
  have O2 : Hid (Own ((w1.alloc (.cells zeroPw 61)).setRow w1.heap.size (pwCells k p.kind v p.value p.other p.digest)) w.heap.size 9 v p.sibs.length (p.sibs.map fun x => .string ⟨x.toArray⟩)) := (HO.out.alloc _).kept fun g hg => heap_setRow_other _ _ _ _ (by have := (HO.out.lt g hg).2; omega)
  clear hn hp hroot hown hOk
  go_wp2_with (refine wpList_store_row rfl 61 _ _ rfl w1.heap.size (pwCells _ _ _ _ _ _) rfl rfl _ _ y1.out (by kernel_rfl) rfl (pw_one HO.out) ?_)
  clear HO y1 B1
  rw [show (w1.alloc (.cells #[.int .i64 0, .int .i64 0, .slice none 0 0, .string ⟨#[]⟩, .string ⟨#[]⟩, .string ⟨#[]⟩] 61)) = w1.alloc (.cells zeroPw 61) from rfl]
  generalize (w1.alloc (.cells zeroPw 61)).setRow w1.heap.size (pwCells k p.kind v p.value p.other p.digest) = w2 at *
  generalize w1.heap.size = g1 at *
  have hg1 := K2.out.lt
  refine (pread_any root idx t w2 ht (by omega) (by omega) (by omega) (HT.out.below B2.out (Nat.le_refl _))).mono ?_
  rintro e w3 ⟨hb, hcase⟩
  have B3 := below_then' B2.out hb B2.out.size
  have K3 : Hid (Blk w3 g1 61 (pwCells k p.kind v p.value p.other p.digest)) := K2.out.below hb hg1
  have O3 : Hid (Own w3 w.heap.size 9 v p.sibs.length (p.sibs.map fun x => .string ⟨x.toArray⟩)) := O2.out.below hb (Nat.le_refl _)
  have hsz : w2.heap.size ≤ w3.heap.size := hb.size
  have hwz : w.heap.size ≤ w2.heap.size := B2.out.size
  clear hb B2 K2 O2
  have y3 : Hid (Blk (w3.alloc (.cells zeroPw 61)) w3.heap.size 61 zeroPw) := Blk.new _ _ _
  rcases hcase with ⟨hn, rfl⟩ | ⟨q, u, hn, hq, hroot, rfl, hown⟩
  · have HV : Hid (clashed root.data.toList idx.data.toList s.data.toList t.data.toList = ([], [], lookErr root.data.toList idx.data.toList t.data.toList)) := clashed_two HN.out hn
    generalize lookErr root.data.toList idx.data.toList t.data.toList = n at *
    have hne : ((n : Int) != 0) = true := by rw [bne_iff_ne]; omega
    have B4 : Hid (Below w.heap.size w ((w3.alloc (.cells zeroPw 61)).setRow w3.heap.size zeroPw)) := below_setRow (B3.out.alloc B3.out.size _) B3.out.size _
    clear hn
    go_wp2_with (refine wpList_store_row rfl 61 _ _ rfl w3.heap.size zeroPw rfl rfl _ _ y3.out (by kernel_rfl) rfl (by kernel_rfl) ?_)
    go_ret3
    exact ⟨B4.out, by rw [HV.out]; rfl⟩
  have HN2 : Hid (lookErr root.data.toList idx.data.toList t.data.toList = 0) := hn
  have HQ : Hid (parse root.data.toList.length idx.data.toList t.data.toList = some q) := hq
  have hOk2 := parse_ok (by rw [hrl]; omega) hq
  rw [hrl, hk] at hOk2 ⊢
  have HOq : Hid (q.Ok k) := hOk2
  have HO2 : Hid (Own w3 w.heap.size 9 u q.sibs.length (q.sibs.map fun x => .string ⟨x.toArray⟩)) := hown.lower (by omega)
  have B4 : Hid (Below w.heap.size w ((w3.alloc (.cells zeroPw 61)).setRow w3.heap.size (pwCells k q.kind u q.value q.other q.digest))) := below_setRow (B3.out.alloc B3.out.size _) B3.out.size _
  have K4 : Hid (Blk ((w3.alloc (.cells zeroPw 61)).setRow w3.heap.size (pwCells k q.kind u q.value q.other q.digest)) g1 61 (pwCells k p.kind v p.value p.other p.digest)) := (K3.out.alloc _).row_other _ (by omega)
  have L4 : Hid (Blk ((w3.alloc (.cells zeroPw 61)).setRow w3.heap.size (pwCells k q.kind u q.value q.other q.digest)) w3.heap.size 61 (pwCells k q.kind u q.value q.other q.digest)) := y3.out.row_same _
  have O4 : Hid (Own ((w3.alloc (.cells zeroPw 61)).setRow w3.heap.size (pwCells k q.kind u q.value q.other q.digest)) w.heap.size 9 v p.sibs.length (p.sibs.map fun x => .string ⟨x.toArray⟩)) := (O3.out.alloc _).kept fun g hg => heap_setRow_other _ _ _ _ (by have := (O3.out.lt g hg).2; omega)
  have P4 : Hid (Own ((w3.alloc (.cells zeroPw 61)).setRow w3.heap.size (pwCells k q.kind u q.value q.other q.digest)) w.heap.size 9 u q.sibs.length (q.sibs.map fun x => .string ⟨x.toArray⟩)) := (HO2.out.alloc _).kept fun g hg => heap_setRow_other _ _ _ _ (by have := (HO2.out.lt g hg).2; omega)
  clear hn hq hroot hown hOk2
  go_upto_region 9 with (refine wpList_store_row rfl 61 _ _ rfl w3.heap.size (pwCells _ _ _ _ _ _) rfl rfl _ _ y3.out (by kernel_rfl) rfl (pw_one HO2.out) ?_)
  clear HO2 y3 B3 K3 O3
  rw [show (w3.alloc (.cells #[.int .i64 0, .int .i64 0, .slice none 0 0, .string ⟨#[]⟩, .string ⟨#[]⟩, .string ⟨#[]⟩] 61)) = w3.alloc (.cells zeroPw 61) from rfl]
  generalize (w3.alloc (.cells zeroPw 61)).setRow w3.heap.size (pwCells k q.kind u q.value q.other q.digest) = w4 at *
  generalize w3.heap.size = g2 at *
  have hpv := HOk.out.value
  have hqv := HOq.out.value
  have HH : Hid (∀ (d : Nat) (os : Array Obj) (kd : Nat) (v : Value) (a b c : List UInt8), a.length ≤ 100 → Calls Tryd.prog 35 #[.agg (pwCells k kd v a b c)] (Go.Sort.grow (redrawn w4 d) os) fun e w'' => e = .returned (.agg #[.int .i64 (sayN kd : Nat), .string ⟨(sayV kd a).toArray⟩]) ∧ ∃ p : Regrown, w'' = Go.Sort.grow (redrawn w4 p.d) p.os) := fun d os kd v a b c ha => by
    have := psaid_any k ⟨kd, [], a, b, c⟩ v (Go.Sort.grow (redrawn w4 d) os) ha
    rw [say_eq] at this
    exact Calls.regrown_of this
  have e0 : ∀ (d : Nat) (os : Array Obj), (Go.Sort.grow (redrawn w4 d) os).cell? ⟨g1, 0, none⟩ = some (.int .i64 (k : Int)) := fun d os => ((K4.out.below (below_regrown w4 d os) K4.out.lt).cell 0).trans rfl
  have e1 : ∀ (d : Nat) (os : Array Obj), (Go.Sort.grow (redrawn w4 d) os).cell? ⟨g1, 1, none⟩ = some (.int .i64 (p.kind : Int)) := fun d os => ((K4.out.below (below_regrown w4 d os) K4.out.lt).cell 1).trans rfl
  have e2 : ∀ (d : Nat) (os : Array Obj), (Go.Sort.grow (redrawn w4 d) os).cell? ⟨g1, 2, none⟩ = some v := fun d os => ((K4.out.below (below_regrown w4 d os) K4.out.lt).cell 2).trans rfl
  have e3 : ∀ (d : Nat) (os : Array Obj), (Go.Sort.grow (redrawn w4 d) os).cell? ⟨g1, 3, none⟩ = some (.string ⟨p.value.toArray⟩) := fun d os => ((K4.out.below (below_regrown w4 d os) K4.out.lt).cell 3).trans rfl
  have e4 : ∀ (d : Nat) (os : Array Obj), (Go.Sort.grow (redrawn w4 d) os).cell? ⟨g1, 4, none⟩ = some (.string ⟨p.other.toArray⟩) := fun d os => ((K4.out.below (below_regrown w4 d os) K4.out.lt).cell 4).trans rfl
  have e5 : ∀ (d : Nat) (os : Array Obj), (Go.Sort.grow (redrawn w4 d) os).cell? ⟨g1, 5, none⟩ = some (.string ⟨p.digest.toArray⟩) := fun d os => ((K4.out.below (below_regrown w4 d os) K4.out.lt).cell 5).trans rfl
  have f0 : ∀ (d : Nat) (os : Array Obj), (Go.Sort.grow (redrawn w4 d) os).cell? ⟨g2, 0, none⟩ = some (.int .i64 (k : Int)) := fun d os => ((L4.out.below (below_regrown w4 d os) L4.out.lt).cell 0).trans rfl
  have f1 : ∀ (d : Nat) (os : Array Obj), (Go.Sort.grow (redrawn w4 d) os).cell? ⟨g2, 1, none⟩ = some (.int .i64 (q.kind : Int)) := fun d os => ((L4.out.below (below_regrown w4 d os) L4.out.lt).cell 1).trans rfl
  have f2 : ∀ (d : Nat) (os : Array Obj), (Go.Sort.grow (redrawn w4 d) os).cell? ⟨g2, 2, none⟩ = some u := fun d os => ((L4.out.below (below_regrown w4 d os) L4.out.lt).cell 2).trans rfl
  have f3 : ∀ (d : Nat) (os : Array Obj), (Go.Sort.grow (redrawn w4 d) os).cell? ⟨g2, 3, none⟩ = some (.string ⟨q.value.toArray⟩) := fun d os => ((L4.out.below (below_regrown w4 d os) L4.out.lt).cell 3).trans rfl
  have f4 : ∀ (d : Nat) (os : Array Obj), (Go.Sort.grow (redrawn w4 d) os).cell? ⟨g2, 4, none⟩ = some (.string ⟨q.other.toArray⟩) := fun d os => ((L4.out.below (below_regrown w4 d os) L4.out.lt).cell 4).trans rfl
  have f5 : ∀ (d : Nat) (os : Array Obj), (Go.Sort.grow (redrawn w4 d) os).cell? ⟨g2, 5, none⟩ = some (.string ⟨q.digest.toArray⟩) := fun d os => ((L4.out.below (below_regrown w4 d os) L4.out.lt).cell 5).trans rfl
  go_wp2
  refine wp_region_quiet_below (by kernel_rfl) (by kernel_rfl) ?_
  repeat (any_goals (first | go_big_quiet_step ((exact HH.out _ _ _ _ _ _ _ (by assumption))) | quiet_step ((exact HH.out _ _ _ _ _ _ _ (by assumption)))))
  clear e0 e1 e2 e3 e4 e5 f0 f1 f2 f3 f4 f5 HH
  have sp := say_eq p
  have sq := say_eq q
  have Sp : Hid (p.said = (sayN p.kind, sayV p.kind p.value)) := sp
  have Sq : Hid (q.said = (sayN q.kind, sayV q.kind q.value)) := sq
  clear sp sq
  generalize sayN p.kind = n1 at *
  generalize sayN q.kind = n2 at *
  generalize sayV p.kind p.value = v1 at *
  generalize sayV q.kind q.value = v2 at *
  by_cases hn : n1 = n2
  · subst hn
    by_cases hv : v1 = v2
    · subst hv
      have HV : Hid (clashed root.data.toList idx.data.toList s.data.toList t.data.toList = ([], [], 1)) := clashed_same HN.out HN2.out HP.out HQ.out (Sp.out.trans Sq.out.symm)
      quiet_step ((fail))
      refine wpQuiet_nil ?_
      intro w5 hw'
      obtain ⟨z, hz⟩ := hw'
      have hb : Hid (Below w4.heap.size w4 w5) := by rw [hz]; exact below_regrown w4 z.d z.os
      clear hz
      have B5 := below_then' B4.out hb.out B4.out.size
      go_wp2
      go_ret3
      exact ⟨B5.out, by rw [HV.out]; rfl⟩
    have Hs : Hid (p.said ≠ q.said) := fun h => hv (by rw [Sp.out, Sq.out] at h; exact (Prod.mk.inj h).2)
    have hvq : (v1 == v2) = false := by rw [beq_eq_false_iff_ne]; exact hv
    clear hv
    quiet_step ((fail))
    refine wpQuiet_nil ?_
    intro w5 hw'
    obtain ⟨z, hz⟩ := hw'
    have hb : Hid (Below w4.heap.size w4 w5) := by rw [hz]; exact below_regrown w4 z.d z.os
    clear hz
    have B5 := below_then' B4.out hb.out B4.out.size
    have K5 : Hid (Blk w5 g1 61 (pwCells k p.kind v p.value p.other p.digest)) := K4.out.below hb.out K4.out.lt
    have L5 : Hid (Blk w5 g2 61 (pwCells k q.kind u q.value q.other q.digest)) := L4.out.below hb.out L4.out.lt
    have O5 : Hid (Own w5 w.heap.size 9 v p.sibs.length (p.sibs.map fun x => .string ⟨x.toArray⟩)) := O4.out.below hb.out (Nat.le_refl _)
    have P5 : Hid (Own w5 w.heap.size 9 u q.sibs.length (q.sibs.map fun x => .string ⟨x.toArray⟩)) := P4.out.below hb.out (Nat.le_refl _)
    clear B4 K4 L4 O4 P4 hb
    have HV : Hid (clashed root.data.toList idx.data.toList s.data.toList t.data.toList = ((clashOf root.data.toList.length idx.data.toList p q).1, (clashOf root.data.toList.length idx.data.toList p q).2, 0)) := clashed_texts HN.out HN2.out HP.out HQ.out (fun h => Hs.out h)
    go_wp2_with (first
      | refine wpList_load_row rfl 61 _ rfl g1 rfl _ _ _ _ K5.out Tryd.underlying61 rfl (by kernel_rfl) ?_
      | refine wpList_load_row rfl 61 _ rfl g2 rfl _ _ _ _ L5.out Tryd.underlying61 rfl (by kernel_rfl) ?_)
    refine (apart_any k idx p q v u w.heap.size w5 hk1 hk2 h32 HOk.out HOq.out (HT.out.below B5.out (Nat.le_refl _)) O5.out P5.out).mono ?_
    rintro e w6 ⟨hb6, rfl⟩
    have B6 := below_then' B5.out hb6 B5.out.size
    clear hb6
    go_wp2
    go_ret3
    exact ⟨B6.out, by rw [HV.out, hrl, Hk.out]; rfl⟩
  · have Hs : Hid (p.said ≠ q.said) := fun h => hn (by rw [Sp.out, Sq.out] at h; exact (Prod.mk.inj h).1)
    have hnq : ((n1 : Int) == (n2 : Int)) = false := by rw [beq_eq_false_iff_ne]; omega
    clear hn
    quiet_step ((fail))
    refine wpQuiet_nil ?_
    intro w5 hw'
    obtain ⟨z, hz⟩ := hw'
    have hb : Hid (Below w4.heap.size w4 w5) := by rw [hz]; exact below_regrown w4 z.d z.os
    clear hz
    have B5 := below_then' B4.out hb.out B4.out.size
    have K5 : Hid (Blk w5 g1 61 (pwCells k p.kind v p.value p.other p.digest)) := K4.out.below hb.out K4.out.lt
    have L5 : Hid (Blk w5 g2 61 (pwCells k q.kind u q.value q.other q.digest)) := L4.out.below hb.out L4.out.lt
    have O5 : Hid (Own w5 w.heap.size 9 v p.sibs.length (p.sibs.map fun x => .string ⟨x.toArray⟩)) := O4.out.below hb.out (Nat.le_refl _)
    have P5 : Hid (Own w5 w.heap.size 9 u q.sibs.length (q.sibs.map fun x => .string ⟨x.toArray⟩)) := P4.out.below hb.out (Nat.le_refl _)
    clear B4 K4 L4 O4 P4 hb
    have HV : Hid (clashed root.data.toList idx.data.toList s.data.toList t.data.toList = ((clashOf root.data.toList.length idx.data.toList p q).1, (clashOf root.data.toList.length idx.data.toList p q).2, 0)) := clashed_texts HN.out HN2.out HP.out HQ.out (fun h => Hs.out h)
    go_wp2_with (first
      | refine wpList_load_row rfl 61 _ rfl g1 rfl _ _ _ _ K5.out Tryd.underlying61 rfl (by kernel_rfl) ?_
      | refine wpList_load_row rfl 61 _ rfl g2 rfl _ _ _ _ L5.out Tryd.underlying61 rfl (by kernel_rfl) ?_)
    refine (apart_any k idx p q v u w.heap.size w5 hk1 hk2 h32 HOk.out HOq.out (HT.out.below B5.out (Nat.le_refl _)) O5.out P5.out).mono ?_
    rintro e w6 ⟨hb6, rfl⟩
    have B6 := below_then' B5.out hb6 B5.out.size
    clear hb6
    go_wp2
    go_ret3
    exact ⟨B6.out, by rw [HV.out, hrl, Hk.out]; rfl⟩
end Go.Proofs.YtghpcgagijhlaaaDoor
