/- The program's two texts of two ways that come out at one root: the first depth at which they differ, or the values; nothing that was in memory turns. -/
import Derived.Test.YtghpcgagijhlaaaDoorPVerify
import Derived.Test.YtghpcgagijhlaaaDoorClashPlain
namespace Go.Proofs.YtghpcgagijhlaaaDoor
open Go.RowKit Sha

theorem tx_get (k : Nat) (I : List UInt8) (p : PW) (i : Nat) (h : i ≤ p.sibs.length) : (((List.range (p.sibs.length + 1)).map fun i => Value.string ⟨(p.textAt k I i).toArray⟩).toArray)[i]? = some (.string ⟨(p.textAt k I i).toArray⟩) := by
  simp [show i < p.sibs.length + 1 by omega]

set_option maxRecDepth 100000 in
set_option maxHeartbeats 4000000 in
theorem apart_any (k : Nat) (idx : ByteArray) (p q : PW) (v u : Value) (base : Nat) (w : World) (hk1 : 1 ≤ k) (hk2 : k ≤ 32) (hi : idx.size = 32) (hp : p.Ok k) (hq : q.Ok k) (hT : Tabs w)
    (hown : Own w base 9 v p.sibs.length (p.sibs.map fun x => .string ⟨x.toArray⟩)) (hown2 : Own w base 9 u q.sibs.length (q.sibs.map fun x => .string ⟨x.toArray⟩)) :
    Calls Tryd.prog 36 #[.agg (pwCells k p.kind v p.value p.other p.digest), .agg (pwCells k q.kind u q.value q.other q.digest), .string idx] w fun e w' => Below w.heap.size w w' ∧
      e = .returned (.tuple #[.string ⟨(clashOf k idx.data.toList p q).1.toArray⟩, .string ⟨(clashOf k idx.data.toList p q).2.toArray⟩]) := by
  have HOk : Hid (p.Ok k) := hp
  have HOq : Hid (q.Ok k) := hq
  have hpv := hp.value
  have hqv := hq.value
  have hpd := hp.depth
  have hqd := hq.depth
  have HT : Hid (Tabs w) := hT
  clear hp hq hT
  have k0 : Hid (Blk ((w.alloc (.cells (pwCells k p.kind v p.value p.other p.digest) 61)).alloc (.cells (pwCells k q.kind u q.value q.other q.digest) 61)) w.heap.size 61 (pwCells k p.kind v p.value p.other p.digest)) := (Blk.new _ _ _).alloc _
  have l0 : Hid (Blk ((w.alloc (.cells (pwCells k p.kind v p.value p.other p.digest) 61)).alloc (.cells (pwCells k q.kind u q.value q.other q.digest) 61)) (w.heap.size + 1) 61 (pwCells k q.kind u q.value q.other q.digest)) := by
    have := Blk.new (w.alloc (.cells (pwCells k p.kind v p.value p.other p.digest) 61)) 61 (pwCells k q.kind u q.value q.other q.digest)
    rw [size_alloc] at this
    exact this
  have b0 : Hid (Below w.heap.size w ((w.alloc (.cells (pwCells k p.kind v p.value p.other p.digest) 61)).alloc (.cells (pwCells k q.kind u q.value q.other q.digest) 61))) := ((Below.refl _ _).alloc (Nat.le_refl _) _).alloc (by simp) _
  have o0 : Hid (Own ((w.alloc (.cells (pwCells k p.kind v p.value p.other p.digest) 61)).alloc (.cells (pwCells k q.kind u q.value q.other q.digest) 61)) base 9 v p.sibs.length (p.sibs.map fun x => .string ⟨x.toArray⟩)) := (hown.alloc _).alloc _
  have m0 : Hid (Own ((w.alloc (.cells (pwCells k p.kind v p.value p.other p.digest) 61)).alloc (.cells (pwCells k q.kind u q.value q.other q.digest) 61)) base 9 u q.sibs.length (q.sibs.map fun x => .string ⟨x.toArray⟩)) := (hown2.alloc _).alloc _
  clear hown hown2
  go_enter Tryd.func36, Tryd.ntmps36
  go_upto_region 1 with (fail)
  generalize ((w.alloc (.cells (pwCells k p.kind v p.value p.other p.digest) 61)).alloc (.cells (pwCells k q.kind u q.value q.other q.digest) 61)) = w0 at *
  have hlt := k0.out.lt
  have hlt2 := l0.out.lt
  have T0d : Hid (Tabs w0.drew) := HT.out.below b0.out.drew (Nat.le_refl _)
  have o0d : Hid (Own w0.drew base 9 v p.sibs.length (p.sibs.map fun x => .string ⟨x.toArray⟩)) := o0.out.kept fun _ _ => rfl
  have m0d : Hid (Own w0.drew base 9 u q.sibs.length (q.sibs.map fun x => .string ⟨x.toArray⟩)) := m0.out.kept fun _ _ => rfl
  have b0d : Hid (Below w.heap.size w w0.drew) := b0.out.drew
  have k0d : Hid (Blk w0.drew w.heap.size 61 (pwCells k p.kind v p.value p.other p.digest)) := k0.out
  have l0d : Hid (Blk w0.drew (w.heap.size + 1) 61 (pwCells k q.kind u q.value q.other q.digest)) := l0.out
  have e0 : w0.cell? ⟨w.heap.size, 0, none⟩ = some (.int .i64 (k : Int)) := (k0.out.cell 0).trans rfl
  have e1 : w0.cell? ⟨w.heap.size, 1, none⟩ = some (.int .i64 (p.kind : Int)) := (k0.out.cell 1).trans rfl
  have e2 : w0.cell? ⟨w.heap.size, 2, none⟩ = some v := (k0.out.cell 2).trans rfl
  have e3 : w0.cell? ⟨w.heap.size, 3, none⟩ = some (.string ⟨p.value.toArray⟩) := (k0.out.cell 3).trans rfl
  have e4 : w0.cell? ⟨w.heap.size, 4, none⟩ = some (.string ⟨p.other.toArray⟩) := (k0.out.cell 4).trans rfl
  have e5 : w0.cell? ⟨w.heap.size, 5, none⟩ = some (.string ⟨p.digest.toArray⟩) := (k0.out.cell 5).trans rfl
  have e6 : w0.cell? ⟨w.heap.size + 1, 0, none⟩ = some (.int .i64 (k : Int)) := (l0.out.cell 0).trans rfl
  have e7 : w0.cell? ⟨w.heap.size + 1, 1, none⟩ = some (.int .i64 (q.kind : Int)) := (l0.out.cell 1).trans rfl
  have e8 : w0.cell? ⟨w.heap.size + 1, 2, none⟩ = some u := (l0.out.cell 2).trans rfl
  have e9 : w0.cell? ⟨w.heap.size + 1, 3, none⟩ = some (.string ⟨q.value.toArray⟩) := (l0.out.cell 3).trans rfl
  have e10 : w0.cell? ⟨w.heap.size + 1, 4, none⟩ = some (.string ⟨q.other.toArray⟩) := (l0.out.cell 4).trans rfl
  have e11 : w0.cell? ⟨w.heap.size + 1, 5, none⟩ = some (.string ⟨q.digest.toArray⟩) := (l0.out.cell 5).trans rfl
  go_region_held3 (fun w' => w'.cell? ⟨w.heap.size, 0, none⟩ = some (.int .i64 (k : Int)) ∧ w'.cell? ⟨w.heap.size, 1, none⟩ = some (.int .i64 (p.kind : Int)) ∧ w'.cell? ⟨w.heap.size, 2, none⟩ = some v ∧ w'.cell? ⟨w.heap.size, 3, none⟩ = some (.string ⟨p.value.toArray⟩) ∧ w'.cell? ⟨w.heap.size, 4, none⟩ = some (.string ⟨p.other.toArray⟩) ∧ w'.cell? ⟨w.heap.size, 5, none⟩ = some (.string ⟨p.digest.toArray⟩) ∧ w'.cell? ⟨w.heap.size + 1, 0, none⟩ = some (.int .i64 (k : Int)) ∧ w'.cell? ⟨w.heap.size + 1, 1, none⟩ = some (.int .i64 (q.kind : Int)) ∧ w'.cell? ⟨w.heap.size + 1, 2, none⟩ = some u ∧ w'.cell? ⟨w.heap.size + 1, 3, none⟩ = some (.string ⟨q.value.toArray⟩) ∧ w'.cell? ⟨w.heap.size + 1, 4, none⟩ = some (.string ⟨q.other.toArray⟩) ∧ w'.cell? ⟨w.heap.size + 1, 5, none⟩ = some (.string ⟨q.digest.toArray⟩)) (go_keep)
    (first
      | (go_at_call_of 52 (Value.agg #[.int .i64 (k : Int), .int .i64 (p.kind : Int), v, .string ⟨p.value.toArray⟩, .string ⟨p.other.toArray⟩, .string ⟨p.digest.toArray⟩]); refine (texts_any k idx p v base w0.drew hk1 hk2 hi HOk.out T0d.out o0d.out).mono ?_; rintro e w1 ⟨hb, g1, rfl, hg1, ht1⟩;
          have b1 : Hid (Below w.heap.size w w1) := b0d.out.trans (hb.mono b0d.out.size);
          have k1 : Hid (Blk w1 w.heap.size 61 (pwCells k p.kind v p.value p.other p.digest)) := k0d.out.below hb hlt;
          have l1 : Hid (Blk w1 (w.heap.size + 1) 61 (pwCells k q.kind u q.value q.other q.digest)) := l0d.out.below hb hlt2;
          have T1 : Hid (Tabs w1) := HT.out.below b1.out (Nat.le_refl _);
          have m1 : Hid (Own w1 base 9 u q.sibs.length (q.sibs.map fun x => .string ⟨x.toArray⟩)) := m0d.out.below hb (Nat.le_refl _);
          have x1 : Hid (Blk w1 g1 9 ((List.range (p.sibs.length + 1)).map fun i => Value.string ⟨(p.textAt k idx.data.toList i).toArray⟩).toArray) := ht1;
          clear hb hg1 ht1;
          have q0 : w1.cell? ⟨w.heap.size, 0, none⟩ = some (.int .i64 (k : Int)) := (k1.out.cell 0).trans rfl;
          have q1 : w1.cell? ⟨w.heap.size, 1, none⟩ = some (.int .i64 (p.kind : Int)) := (k1.out.cell 1).trans rfl;
          have q2 : w1.cell? ⟨w.heap.size, 2, none⟩ = some v := (k1.out.cell 2).trans rfl;
          have q3 : w1.cell? ⟨w.heap.size, 3, none⟩ = some (.string ⟨p.value.toArray⟩) := (k1.out.cell 3).trans rfl;
          have q4 : w1.cell? ⟨w.heap.size, 4, none⟩ = some (.string ⟨p.other.toArray⟩) := (k1.out.cell 4).trans rfl;
          have q5 : w1.cell? ⟨w.heap.size, 5, none⟩ = some (.string ⟨p.digest.toArray⟩) := (k1.out.cell 5).trans rfl;
          have q6 : w1.cell? ⟨w.heap.size + 1, 0, none⟩ = some (.int .i64 (k : Int)) := (l1.out.cell 0).trans rfl;
          have q7 : w1.cell? ⟨w.heap.size + 1, 1, none⟩ = some (.int .i64 (q.kind : Int)) := (l1.out.cell 1).trans rfl;
          have q8 : w1.cell? ⟨w.heap.size + 1, 2, none⟩ = some u := (l1.out.cell 2).trans rfl;
          have q9 : w1.cell? ⟨w.heap.size + 1, 3, none⟩ = some (.string ⟨q.value.toArray⟩) := (l1.out.cell 3).trans rfl;
          have q10 : w1.cell? ⟨w.heap.size + 1, 4, none⟩ = some (.string ⟨q.other.toArray⟩) := (l1.out.cell 4).trans rfl;
          have q11 : w1.cell? ⟨w.heap.size + 1, 5, none⟩ = some (.string ⟨q.digest.toArray⟩) := (l1.out.cell 5).trans rfl;
          skip)
      | (go_at_call 52; refine (texts_any k idx q u base w1 hk1 hk2 hi HOq.out T1.out m1.out).mono ?_; rintro e w2 ⟨hb, g2, rfl, hg2, ht2⟩;
          have b2 : Hid (Below w.heap.size w w2) := b1.out.trans (hb.mono b1.out.size);
          have k2 : Hid (Blk w2 w.heap.size 61 (pwCells k p.kind v p.value p.other p.digest)) := k1.out.below hb k1.out.lt;
          have l2 : Hid (Blk w2 (w.heap.size + 1) 61 (pwCells k q.kind u q.value q.other q.digest)) := l1.out.below hb l1.out.lt;
          have x2 : Hid (Blk w2 g1 9 ((List.range (p.sibs.length + 1)).map fun i => Value.string ⟨(p.textAt k idx.data.toList i).toArray⟩).toArray) := x1.out.below hb x1.out.lt;
          have z2 : Hid (Blk w2 g2 9 ((List.range (q.sibs.length + 1)).map fun i => Value.string ⟨(q.textAt k idx.data.toList i).toArray⟩).toArray) := ht2;
          clear hb hg2 ht2;
          have r0 : w2.cell? ⟨w.heap.size, 0, none⟩ = some (.int .i64 (k : Int)) := (k2.out.cell 0).trans rfl;
          have r1 : w2.cell? ⟨w.heap.size, 1, none⟩ = some (.int .i64 (p.kind : Int)) := (k2.out.cell 1).trans rfl;
          have r2 : w2.cell? ⟨w.heap.size, 2, none⟩ = some v := (k2.out.cell 2).trans rfl;
          have r3 : w2.cell? ⟨w.heap.size, 3, none⟩ = some (.string ⟨p.value.toArray⟩) := (k2.out.cell 3).trans rfl;
          have r4 : w2.cell? ⟨w.heap.size, 4, none⟩ = some (.string ⟨p.other.toArray⟩) := (k2.out.cell 4).trans rfl;
          have r5 : w2.cell? ⟨w.heap.size, 5, none⟩ = some (.string ⟨p.digest.toArray⟩) := (k2.out.cell 5).trans rfl;
          have r6 : w2.cell? ⟨w.heap.size + 1, 0, none⟩ = some (.int .i64 (k : Int)) := (l2.out.cell 0).trans rfl;
          have r7 : w2.cell? ⟨w.heap.size + 1, 1, none⟩ = some (.int .i64 (q.kind : Int)) := (l2.out.cell 1).trans rfl;
          have r8 : w2.cell? ⟨w.heap.size + 1, 2, none⟩ = some u := (l2.out.cell 2).trans rfl;
          have r9 : w2.cell? ⟨w.heap.size + 1, 3, none⟩ = some (.string ⟨q.value.toArray⟩) := (l2.out.cell 3).trans rfl;
          have r10 : w2.cell? ⟨w.heap.size + 1, 4, none⟩ = some (.string ⟨q.other.toArray⟩) := (l2.out.cell 4).trans rfl;
          have r11 : w2.cell? ⟨w.heap.size + 1, 5, none⟩ = some (.string ⟨q.digest.toArray⟩) := (l2.out.cell 5).trans rfl;
          skip))
  clear e0 e1 e2 e3 e4 e5 e6 e7 e8 e9 e10 e11 q0 q1 q2 q3 q4 q5 q6 q7 q8 q9 q10 q11 r0 r1 r2 r3 r4 r5 r6 r7 r8 r9 r10 r11 k0 l0 o0 m0 b0 T0d o0d m0d b0d k0d l0d k1 l1 T1 m1 b1 x1
  rename_i hHeld
  clear hHeld
  go_wp2
  obtain ⟨M, hM⟩ : ∃ M : Nat, M = min p.sibs.length q.sibs.length + 1 := ⟨_, rfl⟩
  have hMi : min (p.sibs.length : Int) (q.sibs.length : Int) + 1 = (M : Int) := by omega
  rw [hMi]
  have HM : Hid (M = min p.sibs.length q.sibs.length + 1) := hM
  have hMp : M ≤ p.sibs.length + 1 := by omega
  have hMq : M ≤ q.sibs.length + 1 := by omega
  clear hM hMi
  go_loopg [22] M (fun gq i wr => ∃ j : Nat, j + gq = M ∧ i = .int .i64 (j : Int) ∧ (∀ i, i < j → p.textAt k idx.data.toList i = q.textAt k idx.data.toList i) ∧ Below w.heap.size w wr ∧ Blk wr w.heap.size 61 (pwCells k p.kind v p.value p.other p.digest) ∧ Blk wr (w.heap.size + 1) 61 (pwCells k q.kind u q.value q.other q.digest) ∧ Blk wr g1 9 ((List.range (p.sibs.length + 1)).map fun i => Value.string ⟨(p.textAt k idx.data.toList i).toArray⟩).toArray ∧ Blk wr g2 9 ((List.range (q.sibs.length + 1)).map fun i => Value.string ⟨(q.textAt k idx.data.toList i).toArray⟩).toArray)
  case atStart => exact ⟨0, by omega, rfl, fun i h => by omega, b2.out, k2.out, l2.out, x2.out, z2.out⟩
  case round =>
    obtain ⟨j, hj, rfl, c0, c1, c2, c3, c4, c5⟩ := hrel
    clear b2 k2 l2 x2 z2
    have C0 : Hid (∀ i, i < j → p.textAt k idx.data.toList i = q.textAt k idx.data.toList i) := c0
    have C1 : Hid (Below w.heap.size w wr) := c1
    have C2 : Hid (Blk wr w.heap.size 61 (pwCells k p.kind v p.value p.other p.digest)) := c2
    have C3 : Hid (Blk wr (w.heap.size + 1) 61 (pwCells k q.kind u q.value q.other q.digest)) := c3
    have C4 : Hid (Blk wr g1 9 ((List.range (p.sibs.length + 1)).map fun i => Value.string ⟨(p.textAt k idx.data.toList i).toArray⟩).toArray) := c4
    have C5 : Hid (Blk wr g2 9 ((List.range (q.sibs.length + 1)).map fun i => Value.string ⟨(q.textAt k idx.data.toList i).toArray⟩).toArray) := c5
    clear c0 c1 c2 c3 c4 c5
    by_cases hlt : j < M
    · have hjp : j ≤ p.sibs.length := by omega
      have hjq : j ≤ q.sibs.length := by omega
      have eP : ∀ n, (wr.drewN n).cell? ⟨g1, j, none⟩ = some (.string ⟨(p.textAt k idx.data.toList j).toArray⟩) := fun n => by rw [(C4.out.drewN n).cell]; exact tx_get k _ p j hjp
      have eQ : ∀ n, (wr.drewN n).cell? ⟨g2, j, none⟩ = some (.string ⟨(q.textAt k idx.data.toList j).toArray⟩) := fun n => by rw [(C5.out.drewN n).cell]; exact tx_get k _ q j hjq
      have eP0 : wr.cell? ⟨g1, j, none⟩ = some (.string ⟨(p.textAt k idx.data.toList j).toArray⟩) := eP 0
      have eQ0 : wr.cell? ⟨g2, j, none⟩ = some (.string ⟨(q.textAt k idx.data.toList j).toArray⟩) := eQ 0
      have i1 : (j : Int) < (p.sibs.length : Int) + 1 := by omega
      have i2 : (j : Int) < (q.sibs.length : Int) + 1 := by omega
      have i3 : (j : Int) < ((p.sibs.length + 1 : Nat) : Int) := by omega
      have i4 : (j : Int) < ((q.sibs.length + 1 : Nat) : Int) := by omega
      have Ha : Hid (p.textAt k idx.data.toList j ≠ q.textAt k idx.data.toList j → clashOf k idx.data.toList p q = (p.textAt k idx.data.toList j, q.textAt k idx.data.toList j)) := clashOf_at C0.out hjp hjq
      have He : Hid (p.textAt k idx.data.toList j = q.textAt k idx.data.toList j → ∀ i, i < j + 1 → p.textAt k idx.data.toList i = q.textAt k idx.data.toList i) := fun h i hi => by
        by_cases hij : i = j
        · rw [hij]; exact h
        · exact C0.out i (by omega)
      generalize p.textAt k idx.data.toList j = X at *
      generalize q.textAt k idx.data.toList j = Y at *
      clear eP eQ
      go_wp2
      go_quiet (fail)
      have D1 : Hid (Below w.heap.size w (wr.drewN nq)) := below_drewN C1.out nq
      have D2 : Hid (Blk (wr.drewN nq) w.heap.size 61 (pwCells k p.kind v p.value p.other p.digest)) := C2.out.drewN nq
      have D3 : Hid (Blk (wr.drewN nq) (w.heap.size + 1) 61 (pwCells k q.kind u q.value q.other q.digest)) := C3.out.drewN nq
      have D4 : Hid (Blk (wr.drewN nq) g1 9 ((List.range (p.sibs.length + 1)).map fun i => Value.string ⟨(p.textAt k idx.data.toList i).toArray⟩).toArray) := C4.out.drewN nq
      have D5 : Hid (Blk (wr.drewN nq) g2 9 ((List.range (q.sibs.length + 1)).map fun i => Value.string ⟨(q.textAt k idx.data.toList i).toArray⟩).toArray) := C5.out.drewN nq
      have eP1 : (wr.drewN nq).cell? ⟨g1, j, none⟩ = some (.string ⟨X.toArray⟩) := eP0
      have eQ1 : (wr.drewN nq).cell? ⟨g2, j, none⟩ = some (.string ⟨Y.toArray⟩) := eQ0
      clear C0 C1 C2 C3 C4 C5 eP0 eQ0
      generalize wr.drewN nq = w5 at *
      by_cases hXY : X = Y
      · have he := He.out hXY
        have HE' : Hid (∀ i, i < j + 1 → p.textAt k idx.data.toList i = q.textAt k idx.data.toList i) := he
        have hxe : (!(X == Y)) = false := by simpa using hXY
        rw [hxe]
        clear he He Ha hXY hxe
        go_wp2
        go_roundg (M - (j + 1))
        case measure => omega
        case rel =>
          go_light
          exact ⟨j + 1, by omega, by go_num, HE'.out, D1.out, D2.out, D3.out, D4.out, D5.out⟩
      · have hne : (!(X == Y)) = true := by simpa using hXY
        rw [hne]
        have HA : Hid (clashOf k idx.data.toList p q = (X, Y)) := Ha.out hXY
        clear He Ha hXY hne
        go_wp2
        go_quiet (fail)
        go_wp2
        go_ret2
        exact ⟨below_drewN D1.out _, by rw [HA.out]; rfl⟩
    · obtain rfl : j = M := by omega
      have HN : Hid (clashOf k idx.data.toList p q = (4 :: p.value, 4 :: q.value)) := clashOf_none fun i h1 h2 => C0.out i (by have := HM.out; omega)
      obtain ⟨f, hf⟩ : ∃ f : ByteArray → ByteArray, Hid (∀ o, f o = ⟨(4 :: o.data.toList).toArray⟩) := ⟨_, fun _ => rfl⟩
      have HB : Hid (∀ (o : ByteArray) (W : World), o.size ≤ 1000 → Calls Tryd.prog 53 #[.string o] W fun e w' => e = .returned (.string (f o)) ∧ w' = W) := fun o W ho => by
        rw [hf.out]
        exact ValueText_any o W ho
      have eP : wr.cell? ⟨w.heap.size, 3, none⟩ = some (.string ⟨p.value.toArray⟩) := (C2.out.cell 3).trans rfl
      have eQ : wr.cell? ⟨w.heap.size + 1, 3, none⟩ = some (.string ⟨q.value.toArray⟩) := (C3.out.cell 3).trans rfl
      have sp : (⟨p.value.toArray⟩ : ByteArray).size ≤ 1000 := by show p.value.length ≤ 1000; omega
      have sq : (⟨q.value.toArray⟩ : ByteArray).size ≤ 1000 := by show q.value.length ≤ 1000; omega
      have fp : Hid (f ⟨p.value.toArray⟩ = ⟨(4 :: p.value).toArray⟩) := by show _ = _; rw [hf.out]
      have fq : Hid (f ⟨q.value.toArray⟩ = ⟨(4 :: q.value).toArray⟩) := by show _ = _; rw [hf.out]
      generalize (⟨p.value.toArray⟩ : ByteArray) = o1 at *
      generalize (⟨q.value.toArray⟩ : ByteArray) = o2 at *
      clear hf
      go_wp2
      go_quiet ((exact Calls.quiet_of_same (HB.out _ _ (by assumption))))
      go_wp2
      go_ret2
      exact ⟨below_drewN C1.out _, by rw [HN.out]; dsimp only; rw [← fp.out, ← fq.out]; rfl⟩
end Go.Proofs.YtghpcgagijhlaaaDoor
