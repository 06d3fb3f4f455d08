/- The program's texts of a way: the text at its end, the texts of all its depths, the root at which it comes out; nothing that was in memory turns. -/
import Derived.Test.YtghpcgagijhlaaaDoorPBit
namespace Go.Proofs.YtghpcgagijhlaaaDoor
open Go.RowKit Sha

theorem dg_eq (k : Nat) (l : List UInt8) : (sha l).take k = dg k l := rfl
/-- the program's way, cell by cell -/
def pwCells (k kd : Nat) (v : Value) (a b c : List UInt8) : Array Value := #[.int .i64 (k : Int), .int .i64 (kd : Int), v, .string ⟨a.toArray⟩, .string ⟨b.toArray⟩, .string ⟨c.toArray⟩]

set_option maxHeartbeats 1000000 in
theorem Empty_any (k : Nat) (w : World) (hk1 : 1 ≤ k) (hk2 : k ≤ 32) (hT : Tabs w) :
    Calls Tryd.prog 45 #[.int .i64 k] w fun e w' => e = .returned (.string ⟨(dg k [0]).toArray⟩) ∧ Below w.heap.size w w' := by
  have HT : Hid (Tabs w) := hT
  clear hT
  go_enter Tryd.func45, Tryd.ntmps45
  go_wp2_with fail
  refine (EmptyText_any w).mono ?_
  rintro e w2 ⟨rfl, hw2⟩
  obtain rfl : w = w2 := hw2.symm
  clear hw2
  go_wp2_with fail
  refine (Of_any k ⟨#[0]⟩ w hk1 hk2 (by decide) HT.out).mono ?_
  rintro e w3 ⟨rfl, hb⟩
  have HB : Hid (Below w.heap.size w w3) := hb
  clear hb
  go_wp2
  go_ret
  exact ⟨rfl, HB.out⟩
set_option maxHeartbeats 1000000 in
theorem Value_any (k : Nat) (a : ByteArray) (w : World) (hk1 : 1 ≤ k) (hk2 : k ≤ 32) (ha : a.size ≤ 1000) (hT : Tabs w) :
    Calls Tryd.prog 76 #[.int .i64 k, .string a] w fun e w' => e = .returned (.string ⟨(dg k (4 :: a.data.toList)).toArray⟩) ∧ Below w.heap.size w w' := by
  have HT : Hid (Tabs w) := hT
  clear hT
  go_enter Tryd.func76, Tryd.ntmps76
  go_wp2_with fail
  refine (ValueText_any a w ha).mono ?_
  rintro e w2 ⟨rfl, hw2⟩
  obtain rfl : w = w2 := hw2.symm
  clear hw2
  have hl : (4 :: a.data.toList).length ≤ 1001 := by simp; exact ha
  generalize hY : 4 :: a.data.toList = Y at *
  have HY : Hid (4 :: a.data.toList = Y) := hY
  clear hY
  go_wp2_with fail
  refine (Of_any k ⟨Y.toArray⟩ w hk1 hk2 (by show Y.length ≤ _; omega) HT.out).mono ?_
  rintro e w3 ⟨rfl, hb⟩
  have HB : Hid (Below w.heap.size w w3) := hb
  clear hb
  go_wp2
  go_ret
  exact ⟨by rw [← HY.out]; rfl, HB.out⟩

set_option maxRecDepth 100000 in
set_option maxHeartbeats 4000000 in
theorem end_any (k : Nat) (idx : ByteArray) (p : PW) (v : Value) (w : World) (hk1 : 1 ≤ k) (hk2 : k ≤ 32) (hi : idx.size = 32) (hp : p.Ok k) (hT : Tabs w) :
    Calls Tryd.prog 62 #[.agg (pwCells k p.kind v p.value p.other p.digest), .string idx] w fun e w' => e = .returned (.string ⟨(p.endText k idx.data.toList).toArray⟩) ∧ Below w.heap.size w w' := by
  obtain ⟨kd, S, a, b, c⟩ := p
  have ha : a.length ≤ 100 := hp.value
  have hb' : b.length ≤ 32 := hp.other
  have hc : c.length ≤ 32 := hp.digest
  have hkd : kd ≤ 2 := hp.kind
  clear hp
  have b0 : Hid (Below w.heap.size w (w.alloc (.cells (pwCells k kd v a b c) 61))) := (Below.refl _ _).alloc (Nat.le_refl _) _
  have k0 : Hid (Blk (w.alloc (.cells (pwCells k kd v a b c) 61)) w.heap.size 61 (pwCells k kd v a b c)) := Blk.new _ _ _
  have t0 : Hid (Tabs (w.alloc (.cells (pwCells k kd v a b c) 61))) := hT.below b0.out (Nat.le_refl _)
  clear hT
  dsimp only
  go_enter Tryd.func62, Tryd.ntmps62
  go_upto_region 1 with (fail)
  generalize w.alloc (.cells (pwCells k kd v a b c) 61) = w0 at *
  have e0 : w0.cell? ⟨w.heap.size, 0, none⟩ = some (.int .i64 (k : Int)) := by rw [k0.out.cell]; rfl
  have e1 : w0.cell? ⟨w.heap.size, 1, none⟩ = some (.int .i64 (kd : Int)) := by rw [k0.out.cell]; rfl
  have e3 : w0.cell? ⟨w.heap.size, 3, none⟩ = some (.string ⟨a.toArray⟩) := by rw [k0.out.cell]; rfl
  have e4 : w0.cell? ⟨w.heap.size, 4, none⟩ = some (.string ⟨b.toArray⟩) := by rw [k0.out.cell]; rfl
  have e5 : w0.cell? ⟨w.heap.size, 5, none⟩ = some (.string ⟨c.toArray⟩) := by rw [k0.out.cell]; rfl
  obtain hk0 | hk1' | hk2' : kd = 0 ∨ kd = 1 ∨ kd = 2 := by omega
  · subst hk0
    go_wp2_with fail
    refine (EmptyText_any w0).mono ?_
    rintro e w2 ⟨rfl, hw2⟩
    obtain rfl : w0 = w2 := hw2.symm
    clear hw2
    go_wp2
    go_ret
    exact ⟨by rw [PW.endText]; simp, b0.out⟩
  · subst hk1'
    go_wp2_with fail
    refine (Value_any k ⟨a.toArray⟩ w0 hk1 hk2 (by show a.length ≤ _; omega) t0.out).mono ?_
    rintro e w2 ⟨rfl, hw2⟩
    have HB : Hid (Below w.heap.size w w2) := b0.out.trans (hw2.mono b0.out.size)
    clear hw2
    have hdl : (dg k (4 :: (⟨a.toArray⟩ : ByteArray).data.toList)).length = k := dg_length k _ hk2
    generalize hY : dg k (4 :: (⟨a.toArray⟩ : ByteArray).data.toList) = Y at *
    have hde : Hid (Y = dg k (4 :: a)) := hY.symm
    clear hY
    go_wp2_with fail
    refine (LeafText_any idx ⟨Y.toArray⟩ w2 (by omega) (by show Y.length ≤ _; omega)).mono ?_
    rintro e w3 ⟨rfl, hw2⟩
    obtain rfl : w2 = w3 := hw2.symm
    clear hw2
    go_wp2
    go_ret
    exact ⟨by rw [PW.endText]; simp [hde.out], HB.out⟩
  · subst hk2'
    go_wp2_with fail
    refine (LeafText_any ⟨b.toArray⟩ ⟨c.toArray⟩ w0 (by show b.length ≤ _; omega) (by show c.length ≤ _; omega)).mono ?_
    rintro e w3 ⟨rfl, hw2⟩
    obtain rfl : w0 = w3 := hw2.symm
    clear hw2
    go_wp2
    go_ret
    exact ⟨by rw [PW.endText]; simp, b0.out⟩

theorem below_then' {B : Nat} {w w1 w2 : World} (h : Below B w w1) (h2 : Below w1.heap.size w1 w2) (hB : B ≤ w1.heap.size) : Hid (Below B w w2) := h.trans (h2.mono hB)
/-- from the depth n - j on the texts stand in their places -/
def Filled (k : Nat) (I : List UInt8) (p : PW) (n j : Nat) (cs : Array Value) : Prop := cs.size = n + 1 ∧ ∀ i, n - j ≤ i → i ≤ n → cs[i]? = some (.string ⟨(p.textAt k I i).toArray⟩)
theorem Filled.step {k : Nat} {I : List UInt8} {p : PW} {n j t : Nat} {cs : Array Value} (h : Filled k I p n j cs) (ht : n - (j + 1) = t) (hj : j < n) {x : List UInt8} (hx : p.textAt k I t = x) : Filled k I p n (j + 1) (cs.setIfInBounds t (.string ⟨x.toArray⟩)) := by
  refine ⟨by rw [Array.size_setIfInBounds]; exact h.1, fun i h1 h2 => ?_⟩
  rw [Array.getElem?_setIfInBounds]
  by_cases e : t = i
  · subst e
    rw [if_pos rfl, if_pos (by rw [h.1]; omega), hx]
  · rw [if_neg e]
    exact h.2 i (by omega) h2
theorem Filled.all {k : Nat} {I : List UInt8} {p : PW} {n : Nat} {cs : Array Value} (h : Filled k I p n n cs) : cs = ((List.range (n + 1)).map fun i => Value.string ⟨(p.textAt k I i).toArray⟩).toArray := by
  apply Array.ext_getElem?
  intro i
  by_cases hi : i ≤ n
  · rw [h.2 i (by omega) hi]
    simp [show i < n + 1 by omega]
  · rw [Array.getElem?_eq_none (by rw [h.1]; omega), Array.getElem?_eq_none (by simp; omega)]
def noTexts (n : Nat) : Array Value := madeCells #[.string ⟨#[]⟩] (n + 1)
theorem make_texts (n : Nat) (hn : n ≤ 256) (W : World) : (Instr.makeSlice 51 (.int .i64 ((n : Int) + 1)) (.int .i64 ((n : Int) + 1))).run Tryd.prog W = .ok (.slice (some ⟨W.heap.size, 0, none⟩) (n + 1) (n + 1)) (W.alloc (.cells (noTexts n) 9)) := by
  obtain ⟨i, h1, h2, h3, h4⟩ := str_info
  have := run_make (P := Tryd.prog) W 51 9 i (.string ⟨#[]⟩) Tryd.underlying51 h1 h2 .i64 .i64 ((n : Int) + 1) ((n : Int) + 1) (by omega) (Int.le_refl _) (by rw [h4]; omega) (by omega)
  rw [this, h3, Nat.mul_one, show ((n : Int) + 1).toNat = n + 1 from by omega]
  rfl
theorem noTexts_get (n i : Nat) (h : i ≤ n) : (noTexts n)[i]? = some (.string ⟨#[]⟩) := by
  rw [noTexts, ← Array.getElem?_toList, toList_madeCells_one, List.getElem?_replicate, if_pos (by omega)]
theorem noTexts_size (n : Nat) : (noTexts n).size = n + 1 := size_madeCells _ _

set_option maxRecDepth 100000 in
set_option maxHeartbeats 4000000 in
theorem texts_any (k : Nat) (idx : ByteArray) (p : PW) (v : Value) (base : Nat) (w : World) (hk1 : 1 ≤ k) (hk2 : k ≤ 32) (hi : idx.size = 32) (hp : p.Ok k) (hT : Tabs w)
    (hown : Own w base 9 v p.sibs.length (p.sibs.map fun x => .string ⟨x.toArray⟩)) :
    Calls Tryd.prog 52 #[.agg (pwCells k p.kind v p.value p.other p.digest), .string idx] w fun e w' => Below w.heap.size w w' ∧ ∃ g, e = .returned (.slice (some ⟨g, 0, none⟩) (p.sibs.length + 1) (p.sibs.length + 1)) ∧
      w.heap.size ≤ g ∧ Blk w' g 9 ((List.range (p.sibs.length + 1)).map fun i => .string ⟨(p.textAt k idx.data.toList i).toArray⟩).toArray := by
  generalize hI : idx.data.toList = I at *
  have HI : Hid (idx.data.toList = I) := hI
  have HIl : Hid (I.length = 32) := by show _ = _; rw [← hI, Array.length_toList]; exact hi
  clear hI
  have HOk : Hid (p.Ok k) := hp
  obtain ⟨kd, S, a, b, c⟩ := p
  have hSl : S.length ≤ 256 := hp.depth
  clear hp
  obtain ⟨o, cap, rfl⟩ : ∃ o cap, v = .slice o S.length cap := by
    rcases hown.2 with ⟨rfl, h0⟩ | ⟨g, cap, _, _, rfl, _⟩
    · exact ⟨none, 0, by rw [h0]⟩
    · exact ⟨_, cap, rfl⟩
  have o0 : Hid (Own (w.alloc (.cells (pwCells k kd (.slice o S.length cap) a b c) 61)) base 9 (.slice o S.length cap) S.length (S.map fun x => .string ⟨x.toArray⟩)) := hown.alloc _
  have b0 : Hid (Below w.heap.size w (w.alloc (.cells (pwCells k kd (.slice o S.length cap) a b c) 61))) := (Below.refl _ _).alloc (Nat.le_refl _) _
  have k0 : Hid (Blk (w.alloc (.cells (pwCells k kd (.slice o S.length cap) a b c) 61)) w.heap.size 61 (pwCells k kd (.slice o S.length cap) a b c)) := Blk.new _ _ _
  have HT : Hid (Tabs w) := hT
  have HG : Hid (∀ g, (Value.slice o S.length cap).ownBlock = some g → g < w.heap.size) := fun g hg => (hown.lt g hg).2
  clear hT hown
  have hmk := make_texts S.length hSl
  dsimp only
  go_enter Tryd.func52, Tryd.ntmps52
  go_upto_region 1 with (fail)
  generalize w.alloc (.cells (pwCells k kd (.slice o S.length cap) a b c) 61) = w0 at *
  have hG := k0.out.lt
  have e2 : w0.cell? ⟨w.heap.size, 2, none⟩ = some (.slice o S.length cap) := by rw [k0.out.cell]; rfl
  go_upto_region 3 with (fail)
  clear e2
  have o1 : Hid (Own (w0.alloc (.cells (noTexts S.length) 9)) base 9 (.slice o S.length cap) S.length (S.map fun x => .string ⟨x.toArray⟩)) := o0.out.alloc _
  have b1 : Hid (Below w.heap.size w (w0.alloc (.cells (noTexts S.length) 9))) := b0.out.alloc b0.out.size _
  have k1 : Hid (Blk (w0.alloc (.cells (noTexts S.length) 9)) w.heap.size 61 (pwCells k kd (.slice o S.length cap) a b c)) := k0.out.alloc _
  have t1 : Hid (Blk (w0.alloc (.cells (noTexts S.length) 9)) w0.heap.size 9 (noTexts S.length)) := Blk.new _ _ _
  clear o0 b0 k0
  generalize w0.alloc (.cells (noTexts S.length) 9) = w1 at *
  generalize w0.heap.size = G at *
  have T1 : Hid (Tabs w1) := HT.out.below b1.out (Nat.le_refl _)
  go_wp2_with (first
    | refine wpList_load_row rfl 61 _ rfl w.heap.size rfl _ _ _ _ k1.out Tryd.underlying61 rfl (by kernel_rfl) ?_
    | fail)
  refine (end_any k idx ⟨kd, S, a, b, c⟩ (.slice o S.length cap) w1 hk1 hk2 hi HOk.out T1.out).mono ?_
  rintro e w2 ⟨rfl, hb2⟩
  rw [HI.out]
  have b2 := below_then' b1.out hb2 b1.out.size
  have k2 : Hid (Blk w2 w.heap.size 61 (pwCells k kd (.slice o S.length cap) a b c)) := k1.out.below hb2 k1.out.lt
  have t2 : Hid (Blk w2 G 9 (noTexts S.length)) := t1.out.below hb2 t1.out.lt
  have o2 : Hid (Own w2 base 9 (.slice o S.length cap) S.length (S.map fun x => .string ⟨x.toArray⟩)) := o1.out.below hb2 (Nat.le_refl _)
  clear hb2 b1 k1 t1 o1 T1
  have e1 : w2.cell? ⟨G, S.length, none⟩ = some (.string ⟨#[]⟩) := by rw [t2.out.cell]; exact noTexts_get _ _ (Nat.le_refl _)
  have f1 : w2.frozen? ⟨G, S.length, none⟩ = false := t2.out.frozen _
  have hnn : ((S.length : Nat) : Int) < ((S.length + 1 : Nat) : Int) := by omega
  go_upto_region 4 with (fail)
  have b3 : Hid (Below w.heap.size w (w2.setCell ⟨G, S.length, none⟩ (.string ⟨(PW.endText k I ⟨kd, S, a, b, c⟩).toArray⟩))) := b2.out.setCell (by simp only; omega) _
  have k3 : Hid (Blk (w2.setCell ⟨G, S.length, none⟩ (.string ⟨(PW.endText k I ⟨kd, S, a, b, c⟩).toArray⟩)) w.heap.size 61 (pwCells k kd (.slice o S.length cap) a b c)) := k2.out.set_other _ _ (by simp only; omega)
  have t3 : Hid (Blk (w2.setCell ⟨G, S.length, none⟩ (.string ⟨(PW.endText k I ⟨kd, S, a, b, c⟩).toArray⟩)) G 9 ((noTexts S.length).setIfInBounds S.length (.string ⟨(PW.endText k I ⟨kd, S, a, b, c⟩).toArray⟩))) := t2.out.set_same _ _
  have o3 : Hid (Own (w2.setCell ⟨G, S.length, none⟩ (.string ⟨(PW.endText k I ⟨kd, S, a, b, c⟩).toArray⟩)) base 9 (.slice o S.length cap) S.length (S.map fun x => .string ⟨x.toArray⟩)) := o2.out.kept fun g hg => Below.heap_setCell _ _ _ _ (by have := HG.out g hg; simp only; omega)
  have F3 : Hid (Filled k I ⟨kd, S, a, b, c⟩ S.length 0 ((noTexts S.length).setIfInBounds S.length (.string ⟨(PW.endText k I ⟨kd, S, a, b, c⟩).toArray⟩))) := by
    refine ⟨by rw [Array.size_setIfInBounds]; exact noTexts_size _, fun i h1 h2 => ?_⟩
    obtain rfl : i = S.length := by omega
    rw [Array.getElem?_setIfInBounds, if_pos rfl, if_pos (by rw [noTexts_size]; omega)]
    simp only [PW.textAt, Nat.sub_self]
    rfl
  clear e1 f1 hnn b2 k2 t2 o2 hmk
  generalize (noTexts S.length).setIfInBounds S.length (.string ⟨(PW.endText k I ⟨kd, S, a, b, c⟩).toArray⟩) = cs0 at *
  generalize w2.setCell ⟨G, S.length, none⟩ (.string ⟨(PW.endText k I ⟨kd, S, a, b, c⟩).toArray⟩) = w3 at *
  go_wp2
  go_loopg [7] S.length (fun q x wr => ∃ (j : Nat) (cs : Array Value), j + q = S.length ∧ x = .int .i64 ((S.length : Int) - 1 - (j : Int)) ∧ Filled k I ⟨kd, S, a, b, c⟩ S.length j cs ∧ Below w.heap.size w wr ∧ Blk wr w.heap.size 61 (pwCells k kd (.slice o S.length cap) a b c) ∧ Blk wr G 9 cs ∧ Own wr base 9 (.slice o S.length cap) S.length (S.map fun x => .string ⟨x.toArray⟩))
  case atStart => exact ⟨0, cs0, by omega, by go_num, F3.out, b3.out, k3.out, t3.out, o3.out⟩
  case round =>
    obtain ⟨j, cs, hj, rfl, c0, c1, c2, c3, c4⟩ := hrel
    clear F3 b3 k3 t3 o3
    have C0 : Hid (Filled k I ⟨kd, S, a, b, c⟩ S.length j cs) := c0
    have C1 : Hid (Below w.heap.size w wr) := c1
    have C2 : Hid (Blk wr w.heap.size 61 (pwCells k kd (.slice o S.length cap) a b c)) := c2
    have C3 : Hid (Blk wr G 9 cs) := c3
    have C4 : Hid (Own wr base 9 (.slice o S.length cap) S.length (S.map fun x => .string ⟨x.toArray⟩)) := c4
    have CT : Hid (Tabs wr) := HT.out.below c1 (Nat.le_refl _)
    clear c0 c1 c2 c3 c4
    by_cases hlt : j < S.length
    · obtain ⟨t, ht⟩ : ∃ t : Nat, t = S.length - 1 - j := ⟨_, rfl⟩
      have hti : (S.length : Int) - 1 - (j : Int) = (t : Int) := by omega
      rw [hti]
      have Ht : Hid (t = S.length - 1 - j) := ht
      have htl : t < S.length := by omega
      have Hti : Hid ((t : Int) - 1 = (S.length : Int) - 1 - ((j + 1 : Nat) : Int)) := by show _ = _; omega
      have hT1 : Hid (PW.textAt k I ⟨kd, S, a, b, c⟩ (t + 1) = PW.up k I ⟨kd, S, a, b, c⟩ j) := by show _ = _; rw [PW.textAt]; exact congrArg (PW.up k I ⟨kd, S, a, b, c⟩) (show S.length - (t + 1) = j by omega)
      have hT0 : Hid (PW.textAt k I ⟨kd, S, a, b, c⟩ t = PW.up k I ⟨kd, S, a, b, c⟩ (j + 1)) := by show _ = _; rw [PW.textAt]; exact congrArg (PW.up k I ⟨kd, S, a, b, c⟩) (show S.length - t = j + 1 by omega)
      clear ht hti
      have hul : (PW.up k I ⟨kd, S, a, b, c⟩ j).length ≤ 65 := up_length k I _ hk2 HIl.out HOk.out j (by show j ≤ S.length; omega)
      have HH : Hid (∀ (d : Nat) (os : Array Obj), Calls Tryd.prog 25 #[.int .i64 k, .string ⟨(PW.up k I ⟨kd, S, a, b, c⟩ j).toArray⟩] (Go.Sort.grow (redrawn wr d) os) fun e w'' => e = .returned (.string ⟨(dg k (PW.up k I ⟨kd, S, a, b, c⟩ j)).toArray⟩) ∧ ∃ p : Regrown, w'' = Go.Sort.grow (redrawn wr p.d) p.os) := fun d os =>
        Calls.regrown_of (Of_any k _ _ hk1 hk2 (by show (PW.up k I ⟨kd, S, a, b, c⟩ j).length ≤ _; omega) (CT.out.below (below_regrown wr d os) (Nat.le_refl _)))
      have e0 : ∀ (d : Nat) (os : Array Obj), (Go.Sort.grow (redrawn wr d) os).cell? ⟨w.heap.size, 0, none⟩ = some (.int .i64 (k : Int)) := fun d os => ((C2.out.below (below_regrown wr d os) C2.out.lt).cell 0).trans rfl
      have eT : ∀ (d : Nat) (os : Array Obj), (Go.Sort.grow (redrawn wr d) os).cell? ⟨G, t + 1, none⟩ = some (.string ⟨(PW.up k I ⟨kd, S, a, b, c⟩ j).toArray⟩) := fun d os => by
        rw [(C3.out.below (below_regrown wr d os) C3.out.lt).cell, C0.out.2 (t + 1) (by have := Ht.out; omega) (by omega), hT1.out]
      have U0 : Hid (bitN I t = 0 → PW.textAt k I ⟨kd, S, a, b, c⟩ t = 2 :: (dg k (PW.up k I ⟨kd, S, a, b, c⟩ j) ++ S.getD t [])) := fun h => by
        rw [hT0.out]; rw [Ht.out] at h ⊢; rw [PW.up, if_pos h]
      have U1 : Hid (bitN I t = 1 → PW.textAt k I ⟨kd, S, a, b, c⟩ t = 2 :: (S.getD t [] ++ dg k (PW.up k I ⟨kd, S, a, b, c⟩ j))) := fun h => by
        rw [hT0.out]; rw [Ht.out] at h ⊢; rw [PW.up]; dsimp only; rw [if_neg (by omega)]
      have hsl : (S.getD t []).length ≤ 32 := by
        rw [List.getD_eq_getElem?_getD, List.getElem?_eq_getElem htl]
        have := HOk.out.sib _ (List.getElem_mem (l := S) htl)
        simp only [Option.getD_some]
        omega
      have hdl : (dg k (PW.up k I ⟨kd, S, a, b, c⟩ j)).length = k := dg_length k _ hk2
      clear hT0 hT1
      generalize dg k (PW.up k I ⟨kd, S, a, b, c⟩ j) = Y at *
      generalize PW.up k I ⟨kd, S, a, b, c⟩ j = U at *
      generalize hZ : S.getD t [] = Z at *
      have HZ : Hid (S.getD t [] = Z) := hZ
      clear hZ
      have hbn := bitN_lt I t
      go_wp2
      refine wp_region_quiet_below (by kernel_rfl) (by kernel_rfl) ?_
      repeat (any_goals (first | go_big_quiet_step ((exact HH.out _ _)) | quiet_step ((exact HH.out _ _))))
      refine wpQuiet_nil ?_
      intro W1 hw'
      obtain ⟨p, hp⟩ := hw'
      have hb : Hid (Below wr.heap.size wr W1) := by rw [hp]; exact below_regrown wr p.d p.os
      clear hp HH e0 eT
      have B1 := below_then' C1.out hb.out C1.out.size
      have K1 : Hid (Blk W1 w.heap.size 61 (pwCells k kd (.slice o S.length cap) a b c)) := C2.out.below hb.out C2.out.lt
      have t1 : Hid (Blk W1 G 9 cs) := C3.out.below hb.out C3.out.lt
      have O1 : Hid (Own W1 base 9 (.slice o S.length cap) S.length (S.map fun x => .string ⟨x.toArray⟩)) := C4.out.below hb.out (Nat.le_refl _)
      clear C1 C2 C3 C4 CT hb
      obtain ⟨g, cap', ho⟩ := O1.out.form (by omega)
      injection ho with ho1 ho2 ho3
      subst ho1
      subst ho3
      clear ho2
      have e2 : W1.cell? ⟨w.heap.size, 2, none⟩ = some (.slice (some ⟨g, 0, none⟩) S.length cap) := (K1.out.cell 2).trans rfl
      have eS : W1.cell? ⟨g, t, none⟩ = some (.string ⟨Z.toArray⟩) := by
        rw [O1.out.cell t htl, ← HZ.out]
        simp [htl]
      obtain ⟨_, hg2, hcap⟩ := O1.out.base
      obtain ⟨x, hx⟩ : ∃ x, cs[t]? = some x := ⟨_, Array.getElem?_eq_getElem (by have := C0.out.1; omega)⟩
      have eG : W1.cell? ⟨G, t, none⟩ = some x := by rw [t1.out.cell]; exact hx
      have fG : W1.frozen? ⟨G, t, none⟩ = false := t1.out.frozen _
      clear hx
      go_wp2_with fail
      refine (pbit_any idx t W1 (by rw [hi]; omega) (by rw [hi]; omega) (by omega)).mono ?_
      rw [HI.out]
      rintro e w2 ⟨rfl, hw2⟩
      obtain rfl : W1 = w2 := hw2.symm
      clear hw2
      generalize bitN I t = x at *
      rcases hbn with rfl | rfl
      · have hq : decide (0 = 1) = false := by decide
        go_wp2_with fail
        refine (NodeText_any ⟨Y.toArray⟩ ⟨Z.toArray⟩ W1 (by show _ ≤ 1000; simp only [List.size_toArray, ByteArray.size]; omega) (by show _ ≤ 1000; simp only [List.size_toArray, ByteArray.size]; omega)).mono ?_
        rintro e w4 ⟨rfl, hw4⟩
        obtain rfl : W1 = w4 := hw4.symm
        clear hw4
        go_wp2
        go_roundg (S.length - (j + 1))
        case measure => omega
        case rel =>
          go_light
          refine ⟨j + 1, _, by omega, by rw [← Hti.out], C0.out.step (t := t) (by have := Ht.out; omega) hlt (U0.out (by first | trivial | rfl)), B1.out.setCell (by simp only; omega) _, K1.out.set_other _ _ (by simp only; omega), t1.out.set_same _ _, O1.out.kept fun g hg => Below.heap_setCell _ _ _ _ (by have := HG.out g hg; simp only; omega)⟩
      · have hq : decide (1 = 1) = true := rfl
        go_wp2_with fail
        refine (NodeText_any ⟨Z.toArray⟩ ⟨Y.toArray⟩ W1 (by show _ ≤ 1000; simp only [List.size_toArray, ByteArray.size]; omega) (by show _ ≤ 1000; simp only [List.size_toArray, ByteArray.size]; omega)).mono ?_
        rintro e w4 ⟨rfl, hw4⟩
        obtain rfl : W1 = w4 := hw4.symm
        clear hw4
        go_wp2
        go_roundg (S.length - (j + 1))
        case measure => omega
        case rel =>
          go_light
          refine ⟨j + 1, _, by omega, by rw [← Hti.out], C0.out.step (t := t) (by have := Ht.out; omega) hlt (U1.out (by first | trivial | rfl)), B1.out.setCell (by simp only; omega) _, K1.out.set_other _ _ (by simp only; omega), t1.out.set_same _ _, O1.out.kept fun g hg => Below.heap_setCell _ _ _ _ (by have := HG.out g hg; simp only; omega)⟩
    · obtain rfl : j = S.length := by omega
      go_wp2
      go_ret
      refine ⟨C1.out, G, rfl, by omega, ?_⟩
      have := C3.out
      rw [C0.out.all] at this
      exact this
end Go.Proofs.YtghpcgagijhlaaaDoor
