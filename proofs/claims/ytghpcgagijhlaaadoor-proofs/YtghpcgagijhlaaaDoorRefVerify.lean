/- The document's own Verify and Root: they answer the plain functions; nothing that was in memory turns. -/
import Derived.Test.YtghpcgagijhlaaaDoorRefAt
namespace Go.Proofs.YtghpcgagijhlaaaDoor
open Go.RowKit Sha

/-- the root at which a proof comes out; nothing: it is none -/
def rootOf (k : Nat) (idx s : List UInt8) : List UInt8 := match parse k idx s with | none => [] | some p => p.root k idx
theorem rootOf_none {k : Nat} {idx s : List UInt8} (h : parse k idx s = none) : rootOf k idx s = [] := by rw [rootOf, h]
theorem rootOf_some {k : Nat} {idx s : List UInt8} {p : PW} (h : parse k idx s = some p) : rootOf k idx s = p.root k idx := by rw [rootOf, h]

theorem below_then {B : Nat} {w w1 w2 : World} (h : Below B w w1) (h2 : Below w1.heap.size w1 w2) (hB : B ≤ w1.heap.size := by first | exact h.size | assumption) : Hid (Below B w w2) := h.trans (h2.mono hB)
set_option maxRecDepth 100000 in
set_option maxHeartbeats 2000000 in
theorem Root_any (k : Nat) (idx s : ByteArray) (w : World) (hs : s.size ≤ 140737488351232) (hk1 : 1 ≤ k) (hk2 : k ≤ 32) (hi : idx.size = 32) :
    Calls Tryd.prog 14 #[.int .i64 k, .string idx, .string s] w fun e w' => Below w.heap.size w w' ∧
      e = .returned (.string ⟨(rootOf k idx.data.toList s.data.toList).toArray⟩) := by
  go_enter Tryd.func14, Tryd.ntmps14
  go_wp2_with fail
  refine (read_any k idx s w hs hk1 hk2 hi).mono ?_
  rintro e w1 ⟨hb, ⟨hn, a, b, c, d, x, y, z, rfl⟩ | ⟨p, v, hp, he, hown⟩⟩
  · have HN : Hid (parse k idx.data.toList s.data.toList = none) := hn
    have HB : Hid (Below w.heap.size w w1) := hb
    clear hn hb
    go_wp2
    go_ret
    exact ⟨HB.out.alloc HB.out.size _, by rw [rootOf_none HN.out]; rfl⟩
  · have HP : Hid (parse k idx.data.toList s.data.toList = some p) := hp
    have HOk : Hid (p.Ok k) := parse_ok hk2 hp
    have HB : Hid (Below w.heap.size w w1) := hb
    have HO : Hid (Own w1 w.heap.size 9 v p.sibs.length (p.sibs.map fun x => .string ⟨x.toArray⟩)) := hown
    have he' : e = .returned (.tuple #[.agg (wayCells p.kind v p.value p.other p.digest), .bool true]) := he
    subst he'
    clear he hp hb hown
    have z1 : Hid (Blk (w1.alloc (.cells zeroWay 53)) w1.heap.size 53 zeroWay) := Blk.new _ _ _
    have k1 : Hid (Blk ((w1.alloc (.cells zeroWay 53)).setRow w1.heap.size (wayCells p.kind v p.value p.other p.digest)) w1.heap.size 53 (wayCells p.kind v p.value p.other p.digest)) := z1.out.row_same _
    have o1 : Hid (Own ((w1.alloc (.cells zeroWay 53)).setRow w1.heap.size (wayCells p.kind v p.value p.other p.digest)) w.heap.size 9 v p.sibs.length (p.sibs.map fun x => .string ⟨x.toArray⟩)) := (HO.out.alloc _).kept fun g hg => heap_setRow_other _ _ _ _ (by have := (HO.out.lt g hg).2; omega)
    have b1 : Hid (Below w.heap.size w ((w1.alloc (.cells zeroWay 53)).setRow w1.heap.size (wayCells p.kind v p.value p.other p.digest))) := below_setRow (HB.out.alloc HB.out.size _) HB.out.size _
    have hroot : Hid (rootOf k idx.data.toList s.data.toList = dg k (p.textAt k idx.data.toList 0)) := rootOf_some HP.out
    have htl : (p.textAt k idx.data.toList 0).length ≤ 65 := up_length k _ p hk2 (by rw [Array.length_toList]; exact hi) HOk.out _ (by omega)
    go_wp2_with (first
      | refine wpList_store_row rfl 53 _ _ rfl w1.heap.size (wayCells _ _ _ _ _) rfl rfl _ _ z1.out (by kernel_rfl) rfl (way_one HO.out) ?_
      | refine wpList_load_row rfl 53 _ rfl w1.heap.size rfl _ _ _ _ k1.out Tryd.underlying53 rfl (by kernel_rfl) ?_)
    refine (at_any k 0 idx p v w.heap.size ((w1.alloc (.cells zeroWay 53)).setRow w1.heap.size (wayCells p.kind v p.value p.other p.digest)) hk1 hk2 hi HOk.out (by omega) o1.out).mono ?_
    rintro e w2 ⟨rfl, hb2⟩
    have Hb2 := below_then b1.out hb2 b1.out.size
    clear hb2
    generalize p.textAt k idx.data.toList 0 = T at *
    go_wp2_with fail
    refine (H_any k _ _ hk1 hk2 (by show T.length ≤ _; omega)).mono ?_
    rintro e w3 ⟨rfl, hb3⟩
    have Hb3 := below_then Hb2.out hb3 Hb2.out.size
    clear hb3
    go_wp2
    go_ret
    exact ⟨Hb3.out, by rw [hroot.out]; rfl⟩
/-- the error's number -/
def lookErr (root idx s : List UInt8) : Nat :=
  if root.length < 1 ∨ 32 < root.length ∨ idx.length ≠ 32 then 1
  else match parse root.length idx s with
    | none => 2
    | some p => if p.root root.length idx = root then 0 else 3
theorem lookErr_arg {root idx s : List UInt8} (h : root.length < 1 ∨ 32 < root.length ∨ idx.length ≠ 32) : lookErr root idx s = 1 := by rw [lookErr, if_pos h]
theorem lookErr_form {root idx s : List UInt8} (h : ¬ (root.length < 1 ∨ 32 < root.length ∨ idx.length ≠ 32)) (hp : parse root.length idx s = none) : lookErr root idx s = 2 := by rw [lookErr, if_neg h, hp]
theorem lookErr_root {root idx s : List UInt8} {p : PW} (h : ¬ (root.length < 1 ∨ 32 < root.length ∨ idx.length ≠ 32)) (hp : parse root.length idx s = some p) (hr : p.root root.length idx ≠ root) : lookErr root idx s = 3 := by rw [lookErr, if_neg h, hp]; exact if_neg hr
theorem lookErr_ok {root idx s : List UInt8} {p : PW} (h : ¬ (root.length < 1 ∨ 32 < root.length ∨ idx.length ≠ 32)) (hp : parse root.length idx s = some p) (hr : p.root root.length idx = root) : lookErr root idx s = 0 := by rw [lookErr, if_neg h, hp]; exact if_pos hr
/-- what look hands back -/
def LookPost (root idx s : List UInt8) (w : World) (e : Ending) (w' : World) : Prop :=
  Below w.heap.size w w' ∧
  ((lookErr root idx s ≠ 0 ∧ e = .returned (.tuple #[.agg zeroWay, .int .i64 (lookErr root idx s : Nat)])) ∨
   ∃ p v, lookErr root idx s = 0 ∧ parse root.length idx s = some p ∧ p.root root.length idx = root ∧ e = .returned (.tuple #[.agg (wayCells p.kind v p.value p.other p.digest), .int .i64 0]) ∧ Own w' w.heap.size 9 v p.sibs.length (p.sibs.map fun x => .string ⟨x.toArray⟩))
theorem look_fail {root idx s : List UInt8} {w w' : World} {n : Nat} (h : lookErr root idx s = n) (hn : n ≠ 0) (hb : Below w.heap.size w w') : LookPost root idx s w (.returned (.tuple #[.agg zeroWay, .int .i64 (n : Int)])) w' :=
  ⟨hb, .inl ⟨by rw [h]; exact hn, by rw [h]⟩⟩

set_option maxRecDepth 100000 in
set_option maxHeartbeats 2000000 in
theorem look_any (root idx s : ByteArray) (w : World) (hs : s.size ≤ 140737488351232) (hr : root.size ≤ 140737488351232) :
    Calls Tryd.prog 37 #[.string root, .string idx, .string s] w (LookPost root.data.toList idx.data.toList s.data.toList w) := by
  have hrl : root.data.toList.length = root.size := by simp
  have hil : idx.data.toList.length = idx.size := by simp
  have z0 : Hid (Blk (w.alloc (.cells zeroWay 53)) w.heap.size 53 zeroWay) := Blk.new _ _ _
  have b0 : Hid (Below w.heap.size w (w.alloc (.cells zeroWay 53))) := (Below.refl _ _).alloc (Nat.le_refl _) _
  by_cases hbad : root.size < 1 ∨ 32 < root.size ∨ idx.size ≠ 32
  · have hE : Hid (lookErr root.data.toList idx.data.toList s.data.toList = 1) := lookErr_arg (by rw [hrl, hil]; exact hbad)
    clear hrl hil
    go_enter Tryd.func37, Tryd.ntmps37
    by_cases p1 : root.size < 1
    · clear hbad
      go_wp2_with (refine wpList_store_row rfl 53 _ _ rfl w.heap.size zeroWay rfl rfl _ _ z0.out (by kernel_rfl) rfl (by kernel_rfl) ?_)
      exact bodyPost_ret (results_row_tmp Tryd.results37 _ _ w.heap.size _ _ _ _ rfl (z0.out.row_same _) Tryd.underlying53 rfl (by kernel_rfl) _ rfl) rfl (look_fail hE.out (by decide) (below_setRow b0.out (Nat.le_refl _) _))
    by_cases p2 : 32 < root.size
    · clear hbad
      go_wp2_with (refine wpList_store_row rfl 53 _ _ rfl w.heap.size zeroWay rfl rfl _ _ z0.out (by kernel_rfl) rfl (by kernel_rfl) ?_)
      exact bodyPost_ret (results_row_tmp Tryd.results37 _ _ w.heap.size _ _ _ _ rfl (z0.out.row_same _) Tryd.underlying53 rfl (by kernel_rfl) _ rfl) rfl (look_fail hE.out (by decide) (below_setRow b0.out (Nat.le_refl _) _))
    have p3 : ((idx.size : Int) != 32) = true := by rw [bne_iff_ne]; omega
    · clear hbad
      go_wp2_with (refine wpList_store_row rfl 53 _ _ rfl w.heap.size zeroWay rfl rfl _ _ z0.out (by kernel_rfl) rfl (by kernel_rfl) ?_)
      exact bodyPost_ret (results_row_tmp Tryd.results37 _ _ w.heap.size _ _ _ _ rfl (z0.out.row_same _) Tryd.underlying53 rfl (by kernel_rfl) _ rfl) rfl (look_fail hE.out (by decide) (below_setRow b0.out (Nat.le_refl _) _))
  · have hE := hbad
    rw [← hrl, ← hil] at hE
    have HE : Hid (¬ (root.data.toList.length < 1 ∨ 32 < root.data.toList.length ∨ idx.data.toList.length ≠ 32)) := hE
    have HR : Hid (root.data.toList.length = root.size) := hrl
    have h1 : 1 ≤ root.size := by omega
    have h2 : root.size ≤ 32 := by omega
    have h3 : idx.size = 32 := by omega
    clear hE hrl hil hbad
    go_enter Tryd.func37, Tryd.ntmps37
    go_wp2_with fail
    refine (read_any root.size idx s (w.alloc (.cells zeroWay 53)) hs h1 h2 h3).mono ?_
    rintro e w1 ⟨hb, hcase⟩
    have hb1 : Hid (Below w.heap.size w w1) := b0.out.trans (hb.mono (by rw [size_alloc]; omega))
    have hz1 : Hid (Blk w1 w.heap.size 53 zeroWay) := z0.out.below hb z0.out.lt
    have hsz : w.heap.size < w1.heap.size := hz1.out.lt
    rw [size_alloc] at hcase
    clear hb b0 z0
    rcases hcase with ⟨hn, a, b, c, d, x, y, z, rfl⟩ | ⟨p, v, hp, he, hown⟩
    · have hE : Hid (lookErr root.data.toList idx.data.toList s.data.toList = 2) := lookErr_form HE.out (by rw [HR.out]; exact hn)
      clear hn
      have Z2 : Hid (Blk (w1.alloc (.cells #[.int .i64 a, .slice b c d, .string x, .string y, .string z] 53)) w.heap.size 53 zeroWay) := hz1.out.alloc _
      go_wp2_with (refine wpList_store_row rfl 53 _ _ rfl w.heap.size zeroWay rfl rfl _ _ Z2.out (by kernel_rfl) rfl (by kernel_rfl) ?_)
      exact bodyPost_ret (results_row_tmp Tryd.results37 _ _ w.heap.size _ _ _ _ rfl (Blk.row_same (cs := zeroWay) Z2.out _) Tryd.underlying53 rfl (by kernel_rfl) _ rfl) rfl (look_fail hE.out (by decide) (below_setRow (hb1.out.alloc hb1.out.size _) (Nat.le_refl _) _))
    · have HP : Hid (parse root.data.toList.length idx.data.toList s.data.toList = some p) := by show _ = _; rw [HR.out]; exact hp
      have HOk : Hid (p.Ok root.size) := parse_ok h2 hp
      have HO : Hid (Own w1 (w.heap.size + 1) 9 v p.sibs.length (p.sibs.map fun x => .string ⟨x.toArray⟩)) := hown
      have he' : e = .returned (.tuple #[.agg (wayCells p.kind v p.value p.other p.digest), .bool true]) := he
      subst he'
      clear he hp hown
      have z1 : Hid (Blk (w1.alloc (.cells zeroWay 53)) w1.heap.size 53 zeroWay) := Blk.new _ _ _
      have k1 : Hid (Blk ((w1.alloc (.cells zeroWay 53)).setRow w1.heap.size (wayCells p.kind v p.value p.other p.digest)) w1.heap.size 53 (wayCells p.kind v p.value p.other p.digest)) := z1.out.row_same _
      have o1 : Hid (Own ((w1.alloc (.cells zeroWay 53)).setRow w1.heap.size (wayCells p.kind v p.value p.other p.digest)) (w.heap.size + 1) 9 v p.sibs.length (p.sibs.map fun x => .string ⟨x.toArray⟩)) := (HO.out.alloc _).kept fun g hg => heap_setRow_other _ _ _ _ (by have := (HO.out.lt g hg).2; omega)
      have b1 : Hid (Below w.heap.size w ((w1.alloc (.cells zeroWay 53)).setRow w1.heap.size (wayCells p.kind v p.value p.other p.digest))) := below_setRow (hb1.out.alloc hb1.out.size _) hb1.out.size _
      have r1 : Hid (Blk ((w1.alloc (.cells zeroWay 53)).setRow w1.heap.size (wayCells p.kind v p.value p.other p.digest)) w.heap.size 53 zeroWay) := (hz1.out.alloc _).row_other _ (by omega)
      have htl : (p.textAt root.size idx.data.toList 0).length ≤ 65 := up_length root.size _ p h2 (by rw [Array.length_toList]; exact h3) HOk.out _ (by omega)
      have hroot : Hid (p.root root.data.toList.length idx.data.toList = dg root.size (p.textAt root.size idx.data.toList 0)) := by show _ = _; rw [HR.out]; rfl
      go_wp2_with (first
        | refine wpList_store_row rfl 53 _ _ rfl w1.heap.size (wayCells _ _ _ _ _) rfl rfl _ _ z1.out (by kernel_rfl) rfl (way_one HO.out) ?_
        | refine wpList_load_row rfl 53 _ rfl w1.heap.size rfl _ _ _ _ k1.out Tryd.underlying53 rfl (by kernel_rfl) ?_)
      refine (at_any root.size 0 idx p v (w.heap.size + 1) ((w1.alloc (.cells zeroWay 53)).setRow w1.heap.size (wayCells p.kind v p.value p.other p.digest)) h1 h2 h3 HOk.out (by omega) o1.out).mono ?_
      rintro e w2 ⟨rfl, hb2⟩
      have B2 := below_then b1.out hb2 b1.out.size
      have R2 : Hid (Blk w2 w.heap.size 53 zeroWay) := r1.out.below hb2 r1.out.lt
      have K2 : Hid (Blk w2 w1.heap.size 53 (wayCells p.kind v p.value p.other p.digest)) := k1.out.below hb2 k1.out.lt
      have O2 : Hid (Own w2 (w.heap.size + 1) 9 v p.sibs.length (p.sibs.map fun x => .string ⟨x.toArray⟩)) := o1.out.below hb2 (Nat.le_refl _)
      clear hb2 b1 r1 k1 o1 z1 HO
      generalize p.textAt root.size idx.data.toList 0 = T at *
      go_wp2_with fail
      refine (H_any root.size _ _ h1 h2 (by show T.length ≤ _; omega)).mono ?_
      rintro e w3 ⟨rfl, hb3⟩
      have B3 := below_then B2.out hb3 B2.out.size
      have R3 : Hid (Blk w3 w.heap.size 53 zeroWay) := R2.out.below hb3 R2.out.lt
      have K3 : Hid (Blk w3 w1.heap.size 53 (wayCells p.kind v p.value p.other p.digest)) := K2.out.below hb3 K2.out.lt
      have O3 : Hid (Own w3 (w.heap.size + 1) 9 v p.sibs.length (p.sibs.map fun x => .string ⟨x.toArray⟩)) := O2.out.below hb3 (Nat.le_refl _)
      clear hb3 B2 R2 K2 O2
      have hlist : Hid (List.take root.size (sha (⟨T.toArray⟩ : ByteArray).data.toList) = p.root root.data.toList.length idx.data.toList) := by show _ = _; rw [hroot.out]; rfl
      by_cases hsame : p.root root.data.toList.length idx.data.toList = root.data.toList
      · have hE : Hid (lookErr root.data.toList idx.data.toList s.data.toList = 0) := lookErr_ok HE.out HP.out hsame
        have hq : (List.take root.size (sha T) == root.toList) = true := by
          rw [beq_iff_eq, ByteArray.toList_eq, ← hsame]
          exact hlist.out
        have HS : Hid (p.root root.data.toList.length idx.data.toList = root.data.toList) := hsame
        clear hsame
        go_wp2_with (first
          | refine wpList_load_row rfl 53 _ rfl w1.heap.size rfl _ _ _ _ K3.out Tryd.underlying53 rfl (by kernel_rfl) ?_
          | refine wpList_store_row rfl 53 _ _ rfl w.heap.size (wayCells _ _ _ _ _) rfl rfl _ _ R3.out (by kernel_rfl) rfl (way_one O3.out) ?_)
        refine bodyPost_ret (results_row_tmp Tryd.results37 _ _ w.heap.size _ _ _ _ rfl (R3.out.row_same _) Tryd.underlying53 rfl (by kernel_rfl) _ rfl) rfl ?_
        exact ⟨below_setRow B3.out (Nat.le_refl _) _, .inr ⟨p, v, hE.out, HP.out, HS.out, rfl, (O3.out.setRow _ _ (by omega)).lower (by omega)⟩⟩
      · have hE : Hid (lookErr root.data.toList idx.data.toList s.data.toList = 3) := lookErr_root HE.out HP.out hsame
        have hq : (List.take root.size (sha T) == root.toList) = false := by
          rw [beq_eq_false_iff_ne, ByteArray.toList_eq]
          intro h
          exact hsame (hlist.out.symm.trans h)
        clear hsame
        go_wp2_with (refine wpList_store_row rfl 53 _ _ rfl w.heap.size zeroWay rfl rfl _ _ R3.out (by kernel_rfl) rfl (by kernel_rfl) ?_)
        exact bodyPost_ret (results_row_tmp Tryd.results37 _ _ w.heap.size _ _ _ _ rfl (R3.out.row_same _) Tryd.underlying53 rfl (by kernel_rfl) _ rfl) rfl (look_fail hE.out (by decide) (below_setRow B3.out (Nat.le_refl _) _))
end Go.Proofs.YtghpcgagijhlaaaDoor
