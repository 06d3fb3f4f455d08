/- The program's root of a way: the digest at which it comes out; nothing that was in memory turns. -/
import Derived.Test.YtghpcgagijhlaaaDoorPText
import Derived.Deep.RegionHeld3
import Derived.Deep.MidRow
namespace Go.Proofs.YtghpcgagijhlaaaDoor
open Go.RowKit Sha

set_option maxRecDepth 100000 in
set_option maxHeartbeats 4000000 in
theorem proot_any (k : Nat) (idx : ByteArray) (p : PW) (v : Value) (base : Nat) (w : World) (hk1 : 1 ≤ k) (hk2 : k ≤ 32) (hi : idx.size = 32) (hp : p.Ok k) (hT : Tabs w)
    (hown : Own w base 9 v p.sibs.length (p.sibs.map fun x => .string ⟨x.toArray⟩)) :
    Calls Tryd.prog 50 #[.agg (pwCells k p.kind v p.value p.other p.digest), .string idx] w fun e w' => e = .returned (.string ⟨(p.root k idx.data.toList).toArray⟩) ∧ Below w.heap.size w w' := by
  have HOk : Hid (p.Ok k) := hp
  have HT : Hid (Tabs w) := hT
  have HO : Hid (Own w base 9 v p.sibs.length (p.sibs.map fun x => .string ⟨x.toArray⟩)) := hown
  clear hp hT hown
  have k0 : Hid (Blk (w.alloc (.cells (pwCells k p.kind v p.value p.other p.digest) 61)) w.heap.size 61 (pwCells k p.kind v p.value p.other p.digest)) := Blk.new _ _ _
  have b0 : Hid (Below w.heap.size w (w.alloc (.cells (pwCells k p.kind v p.value p.other p.digest) 61))) := (Below.refl _ _).alloc (Nat.le_refl _) _
  have o0 : Hid (Own (w.alloc (.cells (pwCells k p.kind v p.value p.other p.digest) 61)) base 9 v p.sibs.length (p.sibs.map fun x => .string ⟨x.toArray⟩)) := HO.out.alloc _
  go_enter Tryd.func50, Tryd.ntmps50
  go_upto_region 1 with (fail)
  generalize w.alloc (.cells (pwCells k p.kind v p.value p.other p.digest) 61) = w0 at *
  have T0 : Hid (Tabs w0) := HT.out.below b0.out (Nat.le_refl _)
  have e0 : w0.cell? ⟨w.heap.size, 0, none⟩ = some (.int .i64 (k : Int)) := by rw [k0.out.cell]; rfl
  have hlt := k0.out.lt
  have hI : idx.data.toList.length = 32 := by rw [Array.length_toList]; exact hi
  have htl : (p.textAt k idx.data.toList 0).length ≤ 65 := up_length k _ p hk2 hI HOk.out _ (by omega)
  have hroot : Hid (p.root k idx.data.toList = dg k (p.textAt k idx.data.toList 0)) := rfl
  have e1 : w0.cell? ⟨w.heap.size, 1, none⟩ = some (.int .i64 (p.kind : Int)) := by rw [k0.out.cell]; rfl
  have e2 : w0.cell? ⟨w.heap.size, 2, none⟩ = some v := by rw [k0.out.cell]; rfl
  have e3 : w0.cell? ⟨w.heap.size, 3, none⟩ = some (.string ⟨p.value.toArray⟩) := by rw [k0.out.cell]; rfl
  have e4 : w0.cell? ⟨w.heap.size, 4, none⟩ = some (.string ⟨p.other.toArray⟩) := by rw [k0.out.cell]; rfl
  have e5 : w0.cell? ⟨w.heap.size, 5, none⟩ = some (.string ⟨p.digest.toArray⟩) := by rw [k0.out.cell]; rfl
  have T0d : Hid (Tabs w0.drew) := HT.out.below b0.out.drew (Nat.le_refl _)
  have o0d : Hid (Own w0.drew base 9 v p.sibs.length (p.sibs.map fun x => .string ⟨x.toArray⟩)) := o0.out.kept fun _ _ => rfl
  have b0d : Hid (Below w.heap.size w w0.drew) := b0.out.drew
  have k0d : Hid (Blk w0.drew w.heap.size 61 (pwCells k p.kind v p.value p.other p.digest)) := k0.out
  go_region_with (first
      | (go_at_call 52; refine (texts_any k idx p v base w0.drew hk1 hk2 hi HOk.out T0d.out o0d.out).mono ?_; rintro e w1 ⟨hb, g, rfl, hg, ht⟩;
          have k1 : Hid (Blk w1 w.heap.size 61 (pwCells k p.kind v p.value p.other p.digest)) := k0d.out.below hb hlt;
          have b1 : Hid (Below w.heap.size w w1) := b0d.out.trans (hb.mono b0d.out.size);
          have T1 : Hid (Tabs w1) := HT.out.below b1.out (Nat.le_refl _);
          have eT : w1.cell? ⟨g, 0, none⟩ = some (.string ⟨(p.textAt k idx.data.toList 0).toArray⟩) := (ht.cell 0).trans (by simp);
          clear hb hg ht;
          have q0 : w1.cell? ⟨w.heap.size, 0, none⟩ = some (.int .i64 (k : Int)) := (k1.out.cell 0).trans rfl;
          have q1 : w1.cell? ⟨w.heap.size, 1, none⟩ = some (.int .i64 (p.kind : Int)) := (k1.out.cell 1).trans rfl;
          have q2 : w1.cell? ⟨w.heap.size, 2, none⟩ = some v := (k1.out.cell 2).trans rfl;
          have q3 : w1.cell? ⟨w.heap.size, 3, none⟩ = some (.string ⟨p.value.toArray⟩) := (k1.out.cell 3).trans rfl;
          have q4 : w1.cell? ⟨w.heap.size, 4, none⟩ = some (.string ⟨p.other.toArray⟩) := (k1.out.cell 4).trans rfl;
          have q5 : w1.cell? ⟨w.heap.size, 5, none⟩ = some (.string ⟨p.digest.toArray⟩) := (k1.out.cell 5).trans rfl)
      | (go_at_call 25; refine (Of_any k ⟨(p.textAt k idx.data.toList 0).toArray⟩ _ hk1 hk2 (by show (p.textAt k idx.data.toList 0).length ≤ _; omega) T1.out).mono ?_; rintro e w2 ⟨rfl, hb2⟩;
          have k2 : Hid (Blk w2 w.heap.size 61 (pwCells k p.kind v p.value p.other p.digest)) := k1.out.below hb2 k1.out.lt;
          have b2 : Hid (Below w.heap.size w w2) := b1.out.trans (hb2.mono b1.out.size);
          clear hb2;
          have q0 : w2.cell? ⟨w.heap.size, 0, none⟩ = some (.int .i64 (k : Int)) := (k2.out.cell 0).trans rfl;
          have q1 : w2.cell? ⟨w.heap.size, 1, none⟩ = some (.int .i64 (p.kind : Int)) := (k2.out.cell 1).trans rfl;
          have q2 : w2.cell? ⟨w.heap.size, 2, none⟩ = some v := (k2.out.cell 2).trans rfl;
          have q3 : w2.cell? ⟨w.heap.size, 3, none⟩ = some (.string ⟨p.value.toArray⟩) := (k2.out.cell 3).trans rfl;
          have q4 : w2.cell? ⟨w.heap.size, 4, none⟩ = some (.string ⟨p.other.toArray⟩) := (k2.out.cell 4).trans rfl;
          have q5 : w2.cell? ⟨w.heap.size, 5, none⟩ = some (.string ⟨p.digest.toArray⟩) := (k2.out.cell 5).trans rfl))
  all_goals
    go_wp2
    go_ret
    exact ⟨by rw [hroot.out]; rfl, b2.out⟩
end Go.Proofs.YtghpcgagijhlaaaDoor
