/- What thicketkeep's Text makes of raw numbers: the bytes of a proof that is made as the document says, and the root at which it comes out; nothing that was in memory turns. -/
import Derived.Test.YtghpcgagijhlaaaDoorKeep2
import Derived.Test.YtghpcgagijhlaaaDoorTextPlain
namespace Go.Proofs.YtghpcgagijhlaaaDoor
open Go.RowKit Sha

/-- raw numbers, in a slice -/
def RawAt (w : World) (v : Value) (xs : List Int) : Prop :=
  (∀ x ∈ xs, -9223372036854775808 ≤ x ∧ x ≤ 9223372036854775807) ∧ xs.length ≤ 9223372036854775807 ∧ ∃ o cap, v = .slice o xs.length cap ∧
    (xs = [] ∨ ∃ b off, o = some ⟨b, off, none⟩ ∧ xs.length ≤ cap ∧ b < w.heap.size ∧ ∀ i, i < xs.length → w.cell? ⟨b, off + i, none⟩ = some (.int .i64 (xs.getD i 0)))
theorem RawAt.below {w w' : World} {B : Nat} {v : Value} {xs : List Int} (h : RawAt w v xs) (hb : Below B w w') (hB : w.heap.size ≤ B) : RawAt w' v xs := by
  obtain ⟨h1, h2, o, cap, h3, h4⟩ := h
  refine ⟨h1, h2, o, cap, h3, h4.imp id ?_⟩
  rintro ⟨b, off, h5, h6, h7, h8⟩
  exact ⟨b, off, h5, h6, Nat.lt_of_lt_of_le h7 hb.size, fun i hi => by rw [hb.cell (p := ⟨b, off + i, none⟩) (Nat.lt_of_lt_of_le h7 hB)]; exact h8 i hi⟩
theorem RawAt.same {w w' : World} {v : Value} {xs : List Int} (h : RawAt w v xs) (hs : w.heap.size ≤ w'.heap.size) (hc : ∀ b i, b < w.heap.size → w'.cell? ⟨b, i, none⟩ = w.cell? ⟨b, i, none⟩) : RawAt w' v xs := by
  obtain ⟨h1, h2, o, cap, h3, h4⟩ := h
  refine ⟨h1, h2, o, cap, h3, h4.imp id ?_⟩
  rintro ⟨b, off, h5, h6, h7, h8⟩
  exact ⟨b, off, h5, h6, Nat.lt_of_lt_of_le h7 hs, fun i hi => by rw [hc b _ h7]; exact h8 i hi⟩
def builtCells (kd : Int) (v : Value) (val oth : Int) : Array Value := #[.int .i64 kd, v, .int .i64 val, .int .i64 oth]
/-- the other index: this one, one bit turned -/
def flipAt (I : List UInt8) (t : Nat) : List UInt8 := I.set (t / 8) (xorBit (I.getD (t / 8) 0) (t % 8))
/-- what the proof is made of -/
def builtPW (k : Nat) (I : List UInt8) (m : Nat) (ys : List Int) (val oth : Int) : PW :=
  if m = 1 then ⟨1, ys.map (sibOf k), valOf val, [], []⟩
  else if m = 2 then ⟨2, ys.map (sibOf k), [], flipAt I (ys.length + (pickZ oth ((256 - ys.length : Nat) : Int)).toNat), dg k (4 :: valOf val)⟩
  else ⟨0, ys.map (sibOf k), [], [], []⟩
theorem built_sibs (k : Nat) (I : List UInt8) (m : Nat) (ys : List Int) (val oth : Int) : (builtPW k I m ys val oth).sibs = ys.map (sibOf k) := by
  unfold builtPW
  split
  · rfl
  · split <;> rfl

theorem Own.frozen {w : World} {base : Nat} {e : TypeId} {g n cap : Nat} {xs : List Value} (h : Own w base e (.slice (some ⟨g, 0, none⟩) n cap) n xs) (j : Nat) (hj : j < n) : w.frozen? ⟨g, j, none⟩ = false := by
  rcases h.2 with ⟨h', _⟩ | ⟨g', cap', cur, fz, h', hb, hg, hf, hn, hs, _⟩
  · cases h'
  · injection h' with h1 h2 h3
    injection h1 with h1
    injection h1 with h1
    subst h1; subst h3
    have := hf j (by omega)
    simp only [World.frozen?, hg]
    simpa using this
theorem Own.stored {w : World} {base : Nat} {e : TypeId} {g n cap : Nat} {xs : List Value} (h : Own w base e (.slice (some ⟨g, 0, none⟩) n cap) n xs) (j : Nat) (u : Value) : Own (w.setCell ⟨g, j, none⟩ u) base e (.slice (some ⟨g, 0, none⟩) n cap) n (xs.set j u) := by
  refine ⟨by rw [List.length_set]; exact h.1, ?_⟩
  rcases h.2 with ⟨h', _⟩ | ⟨g', cap', cur, fz, h', hb, hg, hf, hn, hs, ht⟩
  · cases h'
  · injection h' with h1 h2 h3
    injection h1 with h1
    injection h1 with h1
    subst h1; subst h3
    refine .inr ⟨g, cap, cur.setIfInBounds j u, fz, rfl, hb, ?_, fun i hi => hf i (by simpa using hi), hn, by rw [Array.size_setIfInBounds]; exact hs, ?_⟩
    · simp only [World.setCell, Array.getElem?_modify, if_true, hg]
      rfl
    · rw [Array.toList_setIfInBounds, List.take_set, ht]
theorem or_byte (x : UInt8) (r : Nat) (hr : r < 8) : bits .or .u8 (x.toNat : Int) (128 / 2 ^ r) = ((orBit x r).toNat : Int) := by
  have H : ∀ x : Fin 256, ∀ r : Fin 8, bits .or .u8 (x.val : Int) (128 / 2 ^ r.val) = (((x.val ||| 128 / 2 ^ r.val) % 256 : Nat) : Int) := by decide +kernel
  have := H ⟨x.toNat, x.toNat_lt⟩ ⟨r, hr⟩
  rw [orBit, UInt8.toNat_ofNat']
  exact this
theorem xor_byte (x : UInt8) (r : Nat) (hr : r < 8) : bits .xor .u8 (x.toNat : Int) (128 / 2 ^ r) = ((xorBit x r).toNat : Int) := by
  have H : ∀ x : Fin 256, ∀ r : Fin 8, bits .xor .u8 (x.val : Int) (128 / 2 ^ r.val) = (((x.val ^^^ 128 / 2 ^ r.val) % 256 : Nat) : Int) := by decide +kernel
  have := H ⟨x.toNat, x.toNat_lt⟩ ⟨r, hr⟩
  rw [xorBit, UInt8.toNat_ofNat']
  exact this
theorem take_next (D : List UInt8) (S : List (List UInt8)) (j : Nat) (h : j < S.length) : toldL D (S.take (j + 1)) = toldL D (S.take j) ++ (if S.getD j [] = D then [] else S.getD j []) := by
  rw [List.take_succ_eq_append_getElem h, toldL_append, List.getD_eq_getElem?_getD, List.getElem?_eq_getElem h]
  simp [toldL]

theorem told_len (D : List UInt8) (S : List (List UInt8)) (k : Nat) : ∀ j, (∀ x ∈ S, x.length = k) → k ≤ 32 → j ≤ 20 → (toldL D (S.take j)).length ≤ 1000 := by
  intro j hS hk hj
  have : ∀ l : List (List UInt8), (∀ x ∈ l, x.length = k) → (toldL D l).length ≤ l.length * 32 := by
    intro l
    induction l with
    | nil => intro _; simp [toldL]
    | cons s r ih =>
      intro h
      have h1 := h s (by simp)
      have h2 := ih (fun x hx => h x (by simp [hx]))
      rw [toldL, List.length_append, List.length_cons]
      split
      · simp; omega
      · omega
  have h3 := this (S.take j) (fun x hx => hS x (List.mem_of_mem_take hx))
  have h4 : (S.take j).length ≤ 20 := by rw [List.length_take]; omega
  omega

set_option maxRecDepth 100000 in
set_option maxHeartbeats 4000000 in
theorem Text_any (k : Nat) (kd val oth num : Int) (v : Value) (xs : List Int) (w : World) (hk1 : 1 ≤ k) (hk2 : k ≤ 32)
    (a1 : -9223372036854775808 ≤ kd) (a2 : kd ≤ 9223372036854775807) (a3 : -9223372036854775808 ≤ val) (a4 : val ≤ 9223372036854775807) (a5 : -9223372036854775808 ≤ oth) (a6 : oth ≤ 9223372036854775807) (a7 : -9223372036854775808 ≤ num) (a8 : num ≤ 9223372036854775807)
    (hraw : RawAt w v xs) (hT : Tabs w) :
    Calls Tryd.prog 18 #[.agg (builtCells kd v val oth), .int .i64 k, .int .i64 num] w fun e w' => Below w.heap.size w w' ∧
      e = .returned (.tuple #[.string ⟨(encode k (builtPW k (idxOf num) (pickZ kd 3).toNat (xs.take 20) val oth)).toArray⟩, .string ⟨((builtPW k (idxOf num) (pickZ kd 3).toNat (xs.take 20) val oth).root k (idxOf num)).toArray⟩]) := by
  have HT : Hid (Tabs w) := hT
  clear hT
  obtain ⟨hx1, hx2, o, cap, rfl, hx3⟩ := hraw
  have HX1 : Hid (∀ x ∈ xs, -9223372036854775808 ≤ x ∧ x ≤ 9223372036854775807) := hx1
  have HX3 : Hid (xs = [] ∨ ∃ b off, o = some ⟨b, off, none⟩ ∧ xs.length ≤ cap ∧ b < w.heap.size ∧ ∀ i, i < xs.length → w.cell? ⟨b, off + i, none⟩ = some (.int .i64 (xs.getD i 0))) := hx3
  clear hx1 hx3
  have k0 : Hid (Blk (w.alloc (.cells (builtCells kd (.slice o xs.length cap) val oth) 33)) w.heap.size 33 (builtCells kd (.slice o xs.length cap) val oth)) := Blk.new _ _ _
  have b0 : Hid (Below w.heap.size w (w.alloc (.cells (builtCells kd (.slice o xs.length cap) val oth) 33))) := (Below.refl _ _).alloc (Nat.le_refl _) _
  go_enter Tryd.func18, Tryd.ntmps18
  go_wp2_with fail
  generalize w.alloc (.cells (builtCells kd (.slice o xs.length cap) val oth) 33) = w0 at *
  refine (indexOf_any num w0 a7 a8).mono ?_
  rintro e w1 ⟨rfl, hb⟩
  have b1 := below_then' b0.out hb b0.out.size
  have k1 : Hid (Blk w1 w.heap.size 33 (builtCells kd (.slice o xs.length cap) val oth)) := k0.out.below hb k0.out.lt
  clear hb b0 k0
  have hIl := idxOf_length num
  obtain ⟨I, hI⟩ : ∃ I, idxOf num = I := ⟨_, rfl⟩
  have HI : Hid (idxOf num = I) := hI
  rw [hI] at hIl
  rw [hI]
  clear hI
  go_wp2_with fail
  refine (sealed_any k ⟨#[0]⟩ w1 hk1 hk2 (by decide) (HT.out.below b1.out (Nat.le_refl _))).mono ?_
  rintro e w2 ⟨rfl, hb⟩
  have b2 := below_then' b1.out hb b1.out.size
  have k2 : Hid (Blk w2 w.heap.size 33 (builtCells kd (.slice o xs.length cap) val oth)) := k1.out.below hb k1.out.lt
  clear hb b1 k1
  rw [show dg k (⟨#[0]⟩ : ByteArray).data.toList = dg k [0] from rfl]
  have hDl : (dg k [0]).length = k := dg_length k _ hk2
  have e0 : w2.cell? ⟨w.heap.size, 0, none⟩ = some (.int .i64 kd) := (k2.out.cell 0).trans rfl
  have e1 : w2.cell? ⟨w.heap.size, 1, none⟩ = some (.slice o xs.length cap) := (k2.out.cell 1).trans rfl
  obtain ⟨n, hn⟩ : ∃ n, n = (xs.take 20).length := ⟨_, rfl⟩
  have Hn : Hid (n = (xs.take 20).length) := hn
  rw [List.length_take] at hn
  have hn20 : n ≤ 20 := by omega
  have hnx : n ≤ xs.length := by omega
  by_cases hbig : 20 < xs.length
  · have hn20' : n = 20 := by omega
    clear hn
    go_wp2_with fail
    rw [show (Value.int .i64 20) = Value.int .i64 (n : Int) by rw [hn20']; rfl]
    clear hn20'
    refine (pick_any kd 3 w2 a1 a2 (by omega) (by omega)).mono ?_
    rintro e w3 ⟨rfl, hw3⟩
    obtain rfl : w2 = w3 := hw3.symm
    clear hw3 e0 e1
    obtain ⟨m, hm, hm3⟩ := pickZ_nat kd 3 (by omega)
    have HM : Hid ((pickZ kd 3).toNat = m) := by
      have h : pickZ kd 3 = (m : Int) := hm
      show _ = _
      omega
    rw [show pickZ kd 3 = (m : Int) from hm]
    clear hm
    obtain rfl | rfl | rfl : m = 0 ∨ m = 1 ∨ m = 2 := by omega
    · obtain ⟨p, hp⟩ : ∃ p : PW, p = ⟨0, (xs.take 20).map (sibOf k), [], [], []⟩ := ⟨_, rfl⟩
      have Hp : Hid (p = ⟨0, (xs.take 20).map (sibOf k), [], [], []⟩) := hp
      have HPW : Hid (builtPW k (idxOf num) (pickZ kd 3).toNat (xs.take 20) val oth = p) := by show _ = _; rw [HM.out, hp]; rfl
      clear hp
      have HE0 : Hid (dg k [0] = dg k (p.up k I 0)) := by show _ = _; rw [Hp.out]; rfl
      have HR : Hid (restOf p = []) := by show _ = _; rw [Hp.out]; rfl
      have HOk : Hid (p.Ok k) := by
        show PW.Ok k p
        rw [Hp.out]
        exact ⟨by simp; omega, fun x hx => by obtain ⟨y', _, rfl⟩ := List.mem_map.1 hx; exact sibOf_length k _ hk2, by simp, by simp, by simp, by simp⟩
      have HS : Hid (p.sibs = (xs.take 20).map (sibOf k)) := by show _ = _; rw [Hp.out]
      have hSl : p.sibs.length = n := by rw [HS.out, List.length_map]; exact Hn.out.symm
      have HSl : Hid (p.sibs.length = n) := hSl
      clear hSl
      obtain ⟨nb, hnb⟩ : ∃ nb : Nat, nb = (n + 7) / 8 := ⟨_, rfl⟩
      have hnbi : ((n : Int) + 7) / 8 = (nb : Int) := by omega
      have Hnb : Hid (nb = (n + 7) / 8) := hnb
      have hnb3 : nb ≤ 3 := by omega
      clear hnb
      have hmk := make_bytes nb (by omega)
      have m1 : Hid (Below w.heap.size w (w2.alloc (.cells (zrow nb) 5))) := b2.out.alloc b2.out.size _
      have m2 : Hid (Blk (w2.alloc (.cells (zrow nb) 5)) w.heap.size 33 (builtCells kd (.slice o xs.length cap) val oth)) := k2.out.alloc _
      have m3 : Hid (Blk (w2.alloc (.cells (zrow nb) 5)) w2.heap.size 5 (u8row (marksTo (dg k [0]) p.sibs 0))) := by
        have := Blk.new w2 5 (zrow nb)
        rw [show marksTo (dg k [0]) p.sibs 0 = List.replicate nb 0 by rw [marksTo, HSl.out, Hnb.out]]
        exact this
      have hgm : Hid (w.heap.size < w2.heap.size) := k2.out.lt
      go_wp2
      clear hmk
      rw [hnbi]
      clear hnbi
      generalize w2.alloc (.cells (zrow nb) 5) = wm at *
      generalize w2.heap.size = gm at *
      go_loopg [17, 18] n (fun q x i wr => ∃ j : Nat, j + q = n ∧ i = .int .i64 (j : Int) ∧ x = .string ⟨(toldL (dg k [0]) (p.sibs.take j)).toArray⟩ ∧ Below w.heap.size w wr ∧ Blk wr w.heap.size 33 (builtCells kd (.slice o xs.length cap) val oth) ∧ Blk wr gm 5 (u8row (marksTo (dg k [0]) p.sibs j)))
      case atStart => exact ⟨0, by omega, rfl, rfl, m1.out, m2.out, m3.out⟩
      case round =>
        obtain ⟨j, hj, rfl, rfl, c1, c2, c3⟩ := hrel
        clear m1 m2 m3
        have C1 : Hid (Below w.heap.size w wr) := c1
        have C2 : Hid (Blk wr w.heap.size 33 (builtCells kd (.slice o xs.length cap) val oth)) := c2
        have C3 : Hid (Blk wr gm 5 (u8row (marksTo (dg k [0]) p.sibs j))) := c3
        clear c1 c2 c3
        have e1 : wr.cell? ⟨w.heap.size, 1, none⟩ = some (.slice o xs.length cap) := (C2.out.cell 1).trans rfl
        have hgmw := hgm.out
        by_cases hlt : j < n
        · obtain ⟨b, off, rfl, hcap, hbw, hcell⟩ : ∃ b off, o = some ⟨b, off, none⟩ ∧ xs.length ≤ cap ∧ b < w.heap.size ∧ ∀ i, i < xs.length → w.cell? ⟨b, off + i, none⟩ = some (.int .i64 (xs.getD i 0)) := by
            rcases HX3.out with h | h
            · rw [h] at hnx; simp at hnx; omega
            · exact h
          have eX : wr.cell? ⟨b, off + j, none⟩ = some (.int .i64 (xs.getD j 0)) := by rw [C1.out.cell (p := ⟨b, off + j, none⟩) hbw]; exact hcell j (by omega)
          have hxm : xs.getD j 0 ∈ xs := by rw [List.getD_eq_getElem?_getD, List.getElem?_eq_getElem (by omega)]; exact List.getElem_mem _
          obtain ⟨y1, y2⟩ := HX1.out _ hxm
          have hSj : Hid (p.sibs.getD j [] = sibOf k (xs.getD j 0)) := by
            show _ = _
            rw [HS.out, List.getD_eq_getElem?_getD, List.getElem?_map, List.getElem?_take, if_pos (by omega), List.getD_eq_getElem?_getD, List.getElem?_eq_getElem (by omega)]
            rfl
          have hsl : (sibOf k (xs.getD j 0)).length = k := sibOf_length k _ hk2
          clear hxm hcell
          generalize xs.getD j 0 = y at *
          have i1 : (j : Int) < (xs.length : Int) := by omega
          go_wp2_with fail
          refine (sibling_any k y wr hk1 hk2 y1 y2 (HT.out.below C1.out (Nat.le_refl _))).mono ?_
          rintro e w6 ⟨rfl, hb6⟩
          have D1 := below_then' C1.out hb6 C1.out.size
          have D2 : Hid (Blk w6 w.heap.size 33 (builtCells kd (.slice (some ⟨b, off, none⟩) xs.length cap) val oth)) := C2.out.below hb6 C2.out.lt
          have D3 : Hid (Blk w6 gm 5 (u8row (marksTo (dg k [0]) p.sibs j))) := C3.out.below hb6 C3.out.lt
          clear hb6 C1 C2 C3 e1 eX
          have hjs : j < p.sibs.length := by rw [HSl.out]; exact hlt
          have htn : Hid (toldL (dg k [0]) (p.sibs.take (j + 1)) = toldL (dg k [0]) (p.sibs.take j) ++ (if sibOf k y = dg k [0] then [] else sibOf k y)) := by
            have := take_next (dg k [0]) p.sibs j hjs
            rw [hSj.out] at this
            exact this
          have hmn : Hid (marksTo (dg k [0]) p.sibs (j + 1) = if sibOf k y = dg k [0] then marksTo (dg k [0]) p.sibs j else (marksTo (dg k [0]) p.sibs j).set (j / 8) (orBit ((marksTo (dg k [0]) p.sibs j).getD (j / 8) 0) (j % 8))) := by
            show _ = _
            rw [marksTo, hSj.out]
          have hml : (marksTo (dg k [0]) p.sibs j).length = nb := by rw [marksTo_length, HSl.out, Hnb.out]
          have htl : (toldL (dg k [0]) (p.sibs.take j)).length ≤ 1000 := told_len _ _ k j (by rw [HS.out]; intro x hx; obtain ⟨y', _, rfl⟩ := List.mem_map.1 hx; exact sibOf_length k _ hk2) (by omega) (by omega)
          clear hjs
          have Hml : Hid ((marksTo (dg k [0]) p.sibs j).length = nb) := hml
          clear hml
          generalize marksTo (dg k [0]) p.sibs j = ML at *
          generalize toldL (dg k [0]) (p.sibs.take j) = TL at *
          generalize sibOf k y = Z at *
          by_cases hZ : Z = dg k [0]
          · have hzq : (Z == dg k [0]) = true := by rw [beq_iff_eq]; exact hZ
            have htn' := htn.out
            have hmn' := hmn.out
            rw [if_pos hZ, List.append_nil] at htn'
            rw [if_pos hZ] at hmn'
            have Ht : Hid (toldL (dg k [0]) (p.sibs.take (j + 1)) = TL) := htn'
            have Hmm : Hid (marksTo (dg k [0]) p.sibs (j + 1) = ML) := hmn'
            clear htn' hmn' htn hmn hZ
            go_wp2
            go_roundg (n - (j + 1))
            case measure => omega
            case rel =>
              go_light
              exact ⟨j + 1, by omega, by go_num, by rw [Ht.out], D1.out, D2.out, by rw [Hmm.out]; exact D3.out⟩
          · have hzq : (Z == dg k [0]) = false := by rw [beq_eq_false_iff_ne]; exact hZ
            have htn' := htn.out
            have hmn' := hmn.out
            rw [if_neg hZ] at htn'
            rw [if_neg hZ] at hmn'
            have Ht : Hid (toldL (dg k [0]) (p.sibs.take (j + 1)) = TL ++ Z) := htn'
            have Hmm : Hid (marksTo (dg k [0]) p.sibs (j + 1) = ML.set (j / 8) (orBit (ML.getD (j / 8) 0) (j % 8))) := hmn'
            clear htn' hmn' htn hmn hZ
            have hj8 : j / 8 < nb := by have := Hnb.out; omega
            have eM : w6.cell? ⟨gm, j / 8, none⟩ = some (.int .u8 ((ML.getD (j / 8) 0).toNat : Int)) := by rw [D3.out.cell]; exact u8row_get _ _ (by rw [Hml.out]; exact hj8)
            have fM : w6.frozen? ⟨gm, j / 8, none⟩ = false := D3.out.frozen _
            have hor : bits .or .u8 ((ML.getD (j / 8) 0).toNat : Int) (128 / 2 ^ (j % 8)) = ((orBit (ML.getD (j / 8) 0) (j % 8)).toNat : Int) := or_byte _ _ (Nat.mod_lt _ (by omega))
            have hx256 := (ML.getD (j / 8) 0).toNat_lt
            have hset : Hid (∀ V : Int, V = ((orBit (ML.getD (j / 8) 0) (j % 8)).toNat : Int) → (u8row ML).setIfInBounds (j / 8) (.int .u8 V) = u8row (ML.set (j / 8) (orBit (ML.getD (j / 8) 0) (j % 8)))) := fun V hV => by rw [hV]; exact u8row_set _ _ _
            generalize ML.getD (j / 8) 0 = x8 at *
            have i3 : (j : Int) / 8 < (nb : Int) := by omega
            have i5 : (0 : Int) ≤ (j : Int) / 8 := by omega
            go_wp2
            refine Tail.tail_drew 13 (by kernel_rfl) (by kernel_rfl) ?_
            simp only [List.take_succ_cons, List.take_zero, List.drop_succ_cons, List.drop_zero]
            repeat (any_goals (first | go_big_quiet_step ((fail)) | quiet_step ((fail))))
            refine wpQuiet_nil ?_
            intro _ hw'
            obtain ⟨nq, rfl⟩ := hw'
            go_wp2
            go_roundg (n - (j + 1))
            case measure => omega
            case rel =>
              go_light
              refine ⟨j + 1, by omega, by go_num, ?_, (below_drewN D1.out nq).setCell (by simp only; omega) _, (D2.out.drewN nq).set_other _ _ (by simp only; omega), ?_⟩
              · rw [Ht.out]
                refine congrArg Value.string (ByteArray.ext ?_)
                simp [ByteArray.data_append]
              · rw [Hmm.out, ← hset.out _ rfl]
                exact (D3.out.drewN nq).set_same _ _
        · obtain rfl : j = n := by omega
          clear e1
          have htake : Hid (toldL (dg k [0]) (p.sibs.take j) = toldL (dg k [0]) p.sibs) := by show _ = _; rw [List.take_of_length_le (by rw [HSl.out]; exact Nat.le_refl _)]
          rw [htake.out]
          have htl : (toldL (dg k [0]) p.sibs).length ≤ 1000 := by
            have := told_len (dg k [0]) p.sibs k j (by rw [HS.out]; intro x hx; obtain ⟨y', _, rfl⟩ := List.mem_map.1 hx; exact sibOf_length k _ hk2) (by omega) (by omega)
            rw [htake.out] at this
            exact this
          clear htake
          go_wp2
          go_loopg [13, 20] j (fun q x i wr => ∃ t : Nat, t + q = j ∧ i = .int .i64 ((j : Int) - 1 - (t : Int)) ∧ x = .string ⟨(dg k (p.up k I t)).toArray⟩ ∧ Below w.heap.size w wr ∧ Blk wr w.heap.size 33 (builtCells kd (.slice o xs.length cap) val oth) ∧ Blk wr gm 5 (u8row (marksTo (dg k [0]) p.sibs j)))
          case atStart => exact ⟨0, by omega, by go_num, by rw [HE0.out], C1.out, C2.out, C3.out⟩
          case round =>
            obtain ⟨u, hu, rfl, rfl, c1, c2, c3⟩ := hrel
            clear C1 C2 C3
            have C1 : Hid (Below w.heap.size w wr) := c1
            have C2 : Hid (Blk wr w.heap.size 33 (builtCells kd (.slice o xs.length cap) val oth)) := c2
            have C3 : Hid (Blk wr gm 5 (u8row (marksTo (dg k [0]) p.sibs j))) := c3
            clear c1 c2 c3
            by_cases hlt2 : u < j
            · obtain ⟨t, ht⟩ : ∃ t : Nat, t = j - 1 - u := ⟨_, rfl⟩
              have hti : (j : Int) - 1 - (u : Int) = (t : Int) := by omega
              rw [hti]
              have Ht : Hid (t = j - 1 - u) := ht
              have htl' : t < j := by omega
              have Hti : Hid ((t : Int) - 1 = (j : Int) - 1 - ((u + 1 : Nat) : Int)) := by show _ = _; omega
              clear ht hti
              obtain ⟨b, off, rfl, hcap, hbw, hcell⟩ : ∃ b off, o = some ⟨b, off, none⟩ ∧ xs.length ≤ cap ∧ b < w.heap.size ∧ ∀ i, i < xs.length → w.cell? ⟨b, off + i, none⟩ = some (.int .i64 (xs.getD i 0)) := by
                rcases HX3.out with h | h
                · rw [h] at hnx; simp at hnx; omega
                · exact h
              have e1 : wr.cell? ⟨w.heap.size, 1, none⟩ = some (.slice (some ⟨b, off, none⟩) xs.length cap) := (C2.out.cell 1).trans rfl
              have eX : wr.cell? ⟨b, off + t, none⟩ = some (.int .i64 (xs.getD t 0)) := by rw [C1.out.cell (p := ⟨b, off + t, none⟩) hbw]; exact hcell t (by omega)
              have hxm : xs.getD t 0 ∈ xs := by rw [List.getD_eq_getElem?_getD, List.getElem?_eq_getElem (by omega)]; exact List.getElem_mem _
              obtain ⟨y1, y2⟩ := HX1.out _ hxm
              have hSj : Hid (p.sibs.getD t [] = sibOf k (xs.getD t 0)) := by
                show _ = _
                rw [HS.out, List.getD_eq_getElem?_getD, List.getElem?_map, List.getElem?_take, if_pos (by omega), List.getD_eq_getElem?_getD, List.getElem?_eq_getElem (by omega)]
                rfl
              have hsl : (sibOf k (xs.getD t 0)).length = k := sibOf_length k _ hk2
              have U0 : Hid (bitN I t = 0 → p.up k I (u + 1) = 2 :: (dg k (p.up k I u) ++ sibOf k (xs.getD t 0))) := fun h => by
                have e : p.sibs.length - 1 - u = t := by rw [HSl.out]; exact Ht.out.symm
                rw [PW.up, e, if_pos h, hSj.out]
              have U1 : Hid (bitN I t = 1 → p.up k I (u + 1) = 2 :: (sibOf k (xs.getD t 0) ++ dg k (p.up k I u))) := fun h => by
                have e : p.sibs.length - 1 - u = t := by rw [HSl.out]; exact Ht.out.symm
                rw [PW.up, e, if_neg (by omega), hSj.out]
              have hel : (dg k (p.up k I u)).length = k := dg_length k _ hk2
              clear hxm hcell
              generalize xs.getD t 0 = y at *
              have i1 : (t : Int) < (xs.length : Int) := by omega
              go_wp2_with fail
              refine (sibling_any k y wr hk1 hk2 y1 y2 (HT.out.below C1.out (Nat.le_refl _))).mono ?_
              rintro e w6 ⟨rfl, hb6⟩
              have D1 := below_then' C1.out hb6 C1.out.size
              have D2 : Hid (Blk w6 w.heap.size 33 (builtCells kd (.slice (some ⟨b, off, none⟩) xs.length cap) val oth)) := C2.out.below hb6 C2.out.lt
              have D3 : Hid (Blk w6 gm 5 (u8row (marksTo (dg k [0]) p.sibs j))) := C3.out.below hb6 C3.out.lt
              clear hb6 C1 C2 C3 e1 eX
              generalize sibOf k y = Z at *
              generalize dg k (p.up k I u) = E at *
              have hI32 : (⟨I.toArray⟩ : ByteArray).size = 32 := hIl
              go_wp2_with fail
              refine (kbit_any ⟨I.toArray⟩ t w6 (by rw [hI32]; omega) (by omega) (by omega)).mono ?_
              rw [show (⟨I.toArray⟩ : ByteArray).data.toList = I from rfl]
              rintro e w7 ⟨rfl, hw7⟩
              obtain rfl : w6 = w7 := hw7.symm
              clear hw7
              have hbn := bitN_lt I t
              generalize bitN I t = bt at *
              have HTb : Hid (Tabs w6) := HT.out.below D1.out (Nat.le_refl _)
              have sE : (⟨E.toArray⟩ : ByteArray).size = k := hel
              have sZ : (⟨Z.toArray⟩ : ByteArray).size = k := hsl
              rcases hbn with rfl | rfl
              · have hap : Hid ((⟨#[2]⟩ : ByteArray) ++ ⟨E.toArray⟩ ++ ⟨Z.toArray⟩ = ⟨(p.up k I (u + 1)).toArray⟩) := by
                  rw [U0.out rfl]
                  apply ByteArray.ext
                  apply Array.toList_inj.1
                  simp [ByteArray.data_append]
                have hul : (p.up k I (u + 1)).length ≤ 65 := up_length k I p hk2 hIl HOk.out _ (by rw [HSl.out]; omega)
                go_wp2_with fail
                rw [hap.out]
                refine (sealed_any k ⟨(p.up k I (u + 1)).toArray⟩ w6 hk1 hk2 (by show (p.up k I (u + 1)).length ≤ _; omega) HTb.out).mono ?_
                rintro e w8 ⟨rfl, hb8⟩
                have F1 := below_then' D1.out hb8 D1.out.size
                have F2 : Hid (Blk w8 w.heap.size 33 (builtCells kd (.slice (some ⟨b, off, none⟩) xs.length cap) val oth)) := D2.out.below hb8 D2.out.lt
                have F3 : Hid (Blk w8 gm 5 (u8row (marksTo (dg k [0]) p.sibs j))) := D3.out.below hb8 D3.out.lt
                clear hb8 hap
                go_wp2
                go_roundg (j - (u + 1))
                case measure => omega
                case rel =>
                  go_light
                  exact ⟨u + 1, by omega, by rw [← Hti.out], rfl, F1.out, F2.out, F3.out⟩
              · have hap : Hid ((⟨#[2]⟩ : ByteArray) ++ ⟨Z.toArray⟩ ++ ⟨E.toArray⟩ = ⟨(p.up k I (u + 1)).toArray⟩) := by
                  rw [U1.out rfl]
                  apply ByteArray.ext
                  apply Array.toList_inj.1
                  simp [ByteArray.data_append]
                have hul : (p.up k I (u + 1)).length ≤ 65 := up_length k I p hk2 hIl HOk.out _ (by rw [HSl.out]; omega)
                go_wp2_with fail
                rw [hap.out]
                refine (sealed_any k ⟨(p.up k I (u + 1)).toArray⟩ w6 hk1 hk2 (by show (p.up k I (u + 1)).length ≤ _; omega) HTb.out).mono ?_
                rintro e w8 ⟨rfl, hb8⟩
                have F1 := below_then' D1.out hb8 D1.out.size
                have F2 : Hid (Blk w8 w.heap.size 33 (builtCells kd (.slice (some ⟨b, off, none⟩) xs.length cap) val oth)) := D2.out.below hb8 D2.out.lt
                have F3 : Hid (Blk w8 gm 5 (u8row (marksTo (dg k [0]) p.sibs j))) := D3.out.below hb8 D3.out.lt
                clear hb8 hap
                go_wp2
                go_roundg (j - (u + 1))
                case measure => omega
                case rel =>
                  go_light
                  exact ⟨u + 1, by omega, by rw [← Hti.out], rfl, F1.out, F2.out, F3.out⟩
            · obtain rfl : u = j := by omega
              have hst1 : (convert 42 9 (.slice (some ⟨wr.heap.size, 0, none⟩) 3 3)).run Tryd.prog (wr.alloc (.cells #[.int .u8 0, .int .u8 0, .int .u8 (u : Int)] 5)) = .ok (.string ⟨#[UInt8.ofNat 0, 0, UInt8.ofNat u]⟩) (wr.alloc (.cells #[.int .u8 0, .int .u8 0, .int .u8 (u : Int)] 5)) := by
                have hB : Blk (wr.alloc (.cells #[.int .u8 0, .int .u8 0, .int .u8 (u : Int)] 5)) wr.heap.size 5 (u8row [UInt8.ofNat 0, 0, UInt8.ofNat u]) := by
                  have h := Blk.new wr 5 #[.int .u8 0, .int .u8 0, .int .u8 (u : Int)]
                  rw [show u8row [UInt8.ofNat 0, 0, UInt8.ofNat u] = #[.int .u8 0, .int .u8 0, .int .u8 (u : Int)] by
                    show #[Value.int .u8 ((UInt8.ofNat 0).toNat : Int), .int .u8 ((0 : UInt8).toNat : Int), .int .u8 ((UInt8.ofNat u).toNat : Int)] = _
                    rw [show ((UInt8.ofNat u).toNat : Int) = (u : Int) by rw [UInt8.toNat_ofNat']; omega]
                    rfl]
                  exact h
                exact str_row hB 3
              have hst2 : (convert 42 9 (.slice (some ⟨gm, 0, none⟩) nb nb)).run Tryd.prog (wr.alloc (.cells #[.int .u8 0, .int .u8 0, .int .u8 (u : Int)] 5)) = .ok (.string ⟨(marksTo (dg k [0]) p.sibs u).toArray⟩) (wr.alloc (.cells #[.int .u8 0, .int .u8 0, .int .u8 (u : Int)] 5)) := by
                have h := str_row (C3.out.alloc (.cells #[.int .u8 0, .int .u8 0, .int .u8 (u : Int)] 5)) nb
                rw [show (marksTo (dg k [0]) p.sibs u).length = nb by rw [marksTo_length, HSl.out, Hnb.out]] at h
                exact h
              have Bf : Hid (Below w.heap.size w (wr.alloc (.cells #[.int .u8 0, .int .u8 0, .int .u8 (u : Int)] 5))) := C1.out.alloc C1.out.size _
              have hml : (⟨(marksTo (dg k [0]) p.sibs u).toArray⟩ : ByteArray).size ≤ 3 := by show (marksTo (dg k [0]) p.sibs u).length ≤ 3; rw [marksTo_length, HSl.out]; have := Hnb.out; omega
              have htb : (⟨(toldL (dg k [0]) p.sibs).toArray⟩ : ByteArray).size ≤ 1000 := htl
              have hfin : Hid ((⟨#[UInt8.ofNat 0, 0, UInt8.ofNat u]⟩ : ByteArray) ++ ⟨(marksTo (dg k [0]) p.sibs u).toArray⟩ ++ ⟨(toldL (dg k [0]) p.sibs).toArray⟩ ++ ⟨#[]⟩ = ⟨(encode k p).toArray⟩) := by
                have h1 : p.kind = 0 := by rw [Hp.out]
                apply ByteArray.ext
                apply Array.toList_inj.1
                rw [encode, h1, HSl.out, HR.out]
                simp [ByteArray.data_append]
              have h3s : (⟨#[UInt8.ofNat 0, 0, UInt8.ofNat u]⟩ : ByteArray).size = 3 := rfl
              generalize (⟨#[UInt8.ofNat 0, 0, UInt8.ofNat u]⟩ : ByteArray) = A1 at *
              generalize (⟨(marksTo (dg k [0]) p.sibs u).toArray⟩ : ByteArray) = A2 at *
              generalize (⟨(toldL (dg k [0]) p.sibs).toArray⟩ : ByteArray) = A3 at *
              go_wp2
              go_ret2
              refine ⟨Bf.out, ?_⟩
              rw [HPW.out, HI.out, ← hfin.out, show p.root k I = dg k (p.up k I u) by rw [PW.root, PW.textAt, HSl.out, Nat.sub_zero]]
              rfl
    · obtain ⟨p, hp⟩ : ∃ p : PW, p = ⟨1, (xs.take 20).map (sibOf k), valOf val, [], []⟩ := ⟨_, rfl⟩
      have Hp : Hid (p = ⟨1, (xs.take 20).map (sibOf k), valOf val, [], []⟩) := hp
      have HPW : Hid (builtPW k (idxOf num) (pickZ kd 3).toNat (xs.take 20) val oth = p) := by show _ = _; rw [HM.out, hp]; rfl
      clear hp
      have HOk : Hid (p.Ok k) := by
        show PW.Ok k p
        rw [Hp.out]
        exact ⟨by simp; omega, fun x hx => by obtain ⟨y', _, rfl⟩ := List.mem_map.1 hx; exact sibOf_length k _ hk2, by have := valOf_length val; simp only; omega, by simp, by simp, by simp⟩
      have e2 : w2.cell? ⟨w.heap.size, 2, none⟩ = some (.int .i64 val) := (k2.out.cell 2).trans rfl
      go_wp2_with fail
      refine (valueOf_any val w2 a3 a4).mono ?_
      rintro e w4 ⟨rfl, hb⟩
      have b4 := below_then' b2.out hb b2.out.size
      have k4 : Hid (Blk w4 w.heap.size 33 (builtCells kd (.slice o xs.length cap) val oth)) := k2.out.below hb k2.out.lt
      clear hb b2 k2 e2
      have hVl := valOf_length val
      have HR : Hid (restOf p = valOf val) := by show _ = _; rw [Hp.out]; rfl
      have HEnd : Hid (p.endText k I = 1 :: (I ++ dg k (4 :: valOf val))) := by show _ = _; rw [Hp.out]; rfl
      generalize valOf val = V at *
      have hap4 : Hid ((⟨#[4]⟩ : ByteArray) ++ ⟨V.toArray⟩ = ⟨(4 :: V).toArray⟩) := by
        apply ByteArray.ext
        apply Array.toList_inj.1
        simp [ByteArray.data_append]
      have sV : (⟨V.toArray⟩ : ByteArray).size ≤ 4 := hVl
      have sI : (⟨I.toArray⟩ : ByteArray).size = 32 := hIl
      go_wp2_with fail
      rw [hap4.out]
      refine (sealed_any k ⟨(4 :: V).toArray⟩ w4 hk1 hk2 (by show (4 :: V).length ≤ _; simp; omega) (HT.out.below b4.out (Nat.le_refl _))).mono ?_
      rintro e w5 ⟨rfl, hb⟩
      rw [show dg k (⟨(4 :: V).toArray⟩ : ByteArray).data.toList = dg k (4 :: V) from rfl]
      have b5 := below_then' b4.out hb b4.out.size
      have k5 : Hid (Blk w5 w.heap.size 33 (builtCells kd (.slice o xs.length cap) val oth)) := k4.out.below hb k4.out.lt
      clear hb b4 k4 hap4
      have hYl : (dg k (4 :: V)).length = k := dg_length k _ hk2
      generalize dg k (4 :: V) = Y at *
      have sY : (⟨Y.toArray⟩ : ByteArray).size = k := hYl
      have hap1 : Hid ((⟨#[1]⟩ : ByteArray) ++ ⟨I.toArray⟩ ++ ⟨Y.toArray⟩ = ⟨(p.up k I 0).toArray⟩) := by
        rw [show p.up k I 0 = p.endText k I from rfl, HEnd.out]
        apply ByteArray.ext
        apply Array.toList_inj.1
        simp [ByteArray.data_append]
      have hul : (p.up k I 0).length ≤ 65 := up_length k I p hk2 hIl HOk.out 0 (by omega)
      go_wp2_with fail
      rw [hap1.out]
      refine (sealed_any k ⟨(p.up k I 0).toArray⟩ w5 hk1 hk2 (by show (p.up k I 0).length ≤ _; omega) (HT.out.below b5.out (Nat.le_refl _))).mono ?_
      rintro e w7 ⟨rfl, hb⟩
      rw [show dg k (⟨(p.up k I 0).toArray⟩ : ByteArray).data.toList = dg k (p.up k I 0) from rfl]
      have b7 := below_then' b5.out hb b5.out.size
      have k7 : Hid (Blk w7 w.heap.size 33 (builtCells kd (.slice o xs.length cap) val oth)) := k5.out.below hb k5.out.lt
      clear hb b5 k5 hap1 hul
      obtain ⟨E0, hE0⟩ : ∃ E0, dg k (p.up k I 0) = E0 := ⟨_, rfl⟩
      rw [hE0]
      have HE0 : Hid (E0 = dg k (p.up k I 0)) := hE0.symm
      clear hE0
      have HS : Hid (p.sibs = (xs.take 20).map (sibOf k)) := by show _ = _; rw [Hp.out]
      have hSl : p.sibs.length = n := by rw [HS.out, List.length_map]; exact Hn.out.symm
      have HSl : Hid (p.sibs.length = n) := hSl
      clear hSl
      obtain ⟨nb, hnb⟩ : ∃ nb : Nat, nb = (n + 7) / 8 := ⟨_, rfl⟩
      have hnbi : ((n : Int) + 7) / 8 = (nb : Int) := by omega
      have Hnb : Hid (nb = (n + 7) / 8) := hnb
      have hnb3 : nb ≤ 3 := by omega
      clear hnb
      have hmk := make_bytes nb (by omega)
      have m1 : Hid (Below w.heap.size w (w7.alloc (.cells (zrow nb) 5))) := b7.out.alloc b7.out.size _
      have m2 : Hid (Blk (w7.alloc (.cells (zrow nb) 5)) w.heap.size 33 (builtCells kd (.slice o xs.length cap) val oth)) := k7.out.alloc _
      have m3 : Hid (Blk (w7.alloc (.cells (zrow nb) 5)) w7.heap.size 5 (u8row (marksTo (dg k [0]) p.sibs 0))) := by
        have := Blk.new w7 5 (zrow nb)
        rw [show marksTo (dg k [0]) p.sibs 0 = List.replicate nb 0 by rw [marksTo, HSl.out, Hnb.out]]
        exact this
      have hgm : Hid (w.heap.size < w7.heap.size) := k7.out.lt
      go_wp2
      clear hmk
      rw [hnbi]
      clear hnbi
      generalize w7.alloc (.cells (zrow nb) 5) = wm at *
      generalize w7.heap.size = gm at *
      go_loopg [17, 18] n (fun q x i wr => ∃ j : Nat, j + q = n ∧ i = .int .i64 (j : Int) ∧ x = .string ⟨(toldL (dg k [0]) (p.sibs.take j)).toArray⟩ ∧ Below w.heap.size w wr ∧ Blk wr w.heap.size 33 (builtCells kd (.slice o xs.length cap) val oth) ∧ Blk wr gm 5 (u8row (marksTo (dg k [0]) p.sibs j)))
      case atStart => exact ⟨0, by omega, rfl, rfl, m1.out, m2.out, m3.out⟩
      case round =>
        obtain ⟨j, hj, rfl, rfl, c1, c2, c3⟩ := hrel
        clear m1 m2 m3
        have C1 : Hid (Below w.heap.size w wr) := c1
        have C2 : Hid (Blk wr w.heap.size 33 (builtCells kd (.slice o xs.length cap) val oth)) := c2
        have C3 : Hid (Blk wr gm 5 (u8row (marksTo (dg k [0]) p.sibs j))) := c3
        clear c1 c2 c3
        have e1 : wr.cell? ⟨w.heap.size, 1, none⟩ = some (.slice o xs.length cap) := (C2.out.cell 1).trans rfl
        have hgmw := hgm.out
        by_cases hlt : j < n
        · obtain ⟨b, off, rfl, hcap, hbw, hcell⟩ : ∃ b off, o = some ⟨b, off, none⟩ ∧ xs.length ≤ cap ∧ b < w.heap.size ∧ ∀ i, i < xs.length → w.cell? ⟨b, off + i, none⟩ = some (.int .i64 (xs.getD i 0)) := by
            rcases HX3.out with h | h
            · rw [h] at hnx; simp at hnx; omega
            · exact h
          have eX : wr.cell? ⟨b, off + j, none⟩ = some (.int .i64 (xs.getD j 0)) := by rw [C1.out.cell (p := ⟨b, off + j, none⟩) hbw]; exact hcell j (by omega)
          have hxm : xs.getD j 0 ∈ xs := by rw [List.getD_eq_getElem?_getD, List.getElem?_eq_getElem (by omega)]; exact List.getElem_mem _
          obtain ⟨y1, y2⟩ := HX1.out _ hxm
          have hSj : Hid (p.sibs.getD j [] = sibOf k (xs.getD j 0)) := by
            show _ = _
            rw [HS.out, List.getD_eq_getElem?_getD, List.getElem?_map, List.getElem?_take, if_pos (by omega), List.getD_eq_getElem?_getD, List.getElem?_eq_getElem (by omega)]
            rfl
          have hsl : (sibOf k (xs.getD j 0)).length = k := sibOf_length k _ hk2
          clear hxm hcell
          generalize xs.getD j 0 = y at *
          have i1 : (j : Int) < (xs.length : Int) := by omega
          go_wp2_with fail
          refine (sibling_any k y wr hk1 hk2 y1 y2 (HT.out.below C1.out (Nat.le_refl _))).mono ?_
          rintro e w6 ⟨rfl, hb6⟩
          have D1 := below_then' C1.out hb6 C1.out.size
          have D2 : Hid (Blk w6 w.heap.size 33 (builtCells kd (.slice (some ⟨b, off, none⟩) xs.length cap) val oth)) := C2.out.below hb6 C2.out.lt
          have D3 : Hid (Blk w6 gm 5 (u8row (marksTo (dg k [0]) p.sibs j))) := C3.out.below hb6 C3.out.lt
          clear hb6 C1 C2 C3 e1 eX
          have hjs : j < p.sibs.length := by rw [HSl.out]; exact hlt
          have htn : Hid (toldL (dg k [0]) (p.sibs.take (j + 1)) = toldL (dg k [0]) (p.sibs.take j) ++ (if sibOf k y = dg k [0] then [] else sibOf k y)) := by
            have := take_next (dg k [0]) p.sibs j hjs
            rw [hSj.out] at this
            exact this
          have hmn : Hid (marksTo (dg k [0]) p.sibs (j + 1) = if sibOf k y = dg k [0] then marksTo (dg k [0]) p.sibs j else (marksTo (dg k [0]) p.sibs j).set (j / 8) (orBit ((marksTo (dg k [0]) p.sibs j).getD (j / 8) 0) (j % 8))) := by
            show _ = _
            rw [marksTo, hSj.out]
          have hml : (marksTo (dg k [0]) p.sibs j).length = nb := by rw [marksTo_length, HSl.out, Hnb.out]
          have htl : (toldL (dg k [0]) (p.sibs.take j)).length ≤ 1000 := told_len _ _ k j (by rw [HS.out]; intro x hx; obtain ⟨y', _, rfl⟩ := List.mem_map.1 hx; exact sibOf_length k _ hk2) (by omega) (by omega)
          clear hjs
          have Hml : Hid ((marksTo (dg k [0]) p.sibs j).length = nb) := hml
          clear hml
          generalize marksTo (dg k [0]) p.sibs j = ML at *
          generalize toldL (dg k [0]) (p.sibs.take j) = TL at *
          generalize sibOf k y = Z at *
          by_cases hZ : Z = dg k [0]
          · have hzq : (Z == dg k [0]) = true := by rw [beq_iff_eq]; exact hZ
            have htn' := htn.out
            have hmn' := hmn.out
            rw [if_pos hZ, List.append_nil] at htn'
            rw [if_pos hZ] at hmn'
            have Ht : Hid (toldL (dg k [0]) (p.sibs.take (j + 1)) = TL) := htn'
            have Hmm : Hid (marksTo (dg k [0]) p.sibs (j + 1) = ML) := hmn'
            clear htn' hmn' htn hmn hZ
            go_wp2
            go_roundg (n - (j + 1))
            case measure => omega
            case rel =>
              go_light
              exact ⟨j + 1, by omega, by go_num, by rw [Ht.out], D1.out, D2.out, by rw [Hmm.out]; exact D3.out⟩
          · have hzq : (Z == dg k [0]) = false := by rw [beq_eq_false_iff_ne]; exact hZ
            have htn' := htn.out
            have hmn' := hmn.out
            rw [if_neg hZ] at htn'
            rw [if_neg hZ] at hmn'
            have Ht : Hid (toldL (dg k [0]) (p.sibs.take (j + 1)) = TL ++ Z) := htn'
            have Hmm : Hid (marksTo (dg k [0]) p.sibs (j + 1) = ML.set (j / 8) (orBit (ML.getD (j / 8) 0) (j % 8))) := hmn'
            clear htn' hmn' htn hmn hZ
            have hj8 : j / 8 < nb := by have := Hnb.out; omega
            have eM : w6.cell? ⟨gm, j / 8, none⟩ = some (.int .u8 ((ML.getD (j / 8) 0).toNat : Int)) := by rw [D3.out.cell]; exact u8row_get _ _ (by rw [Hml.out]; exact hj8)
            have fM : w6.frozen? ⟨gm, j / 8, none⟩ = false := D3.out.frozen _
            have hor : bits .or .u8 ((ML.getD (j / 8) 0).toNat : Int) (128 / 2 ^ (j % 8)) = ((orBit (ML.getD (j / 8) 0) (j % 8)).toNat : Int) := or_byte _ _ (Nat.mod_lt _ (by omega))
            have hx256 := (ML.getD (j / 8) 0).toNat_lt
            have hset : Hid (∀ V : Int, V = ((orBit (ML.getD (j / 8) 0) (j % 8)).toNat : Int) → (u8row ML).setIfInBounds (j / 8) (.int .u8 V) = u8row (ML.set (j / 8) (orBit (ML.getD (j / 8) 0) (j % 8)))) := fun V hV => by rw [hV]; exact u8row_set _ _ _
            generalize ML.getD (j / 8) 0 = x8 at *
            have i3 : (j : Int) / 8 < (nb : Int) := by omega
            have i5 : (0 : Int) ≤ (j : Int) / 8 := by omega
            go_wp2
            refine Tail.tail_drew 13 (by kernel_rfl) (by kernel_rfl) ?_
            simp only [List.take_succ_cons, List.take_zero, List.drop_succ_cons, List.drop_zero]
            repeat (any_goals (first | go_big_quiet_step ((fail)) | quiet_step ((fail))))
            refine wpQuiet_nil ?_
            intro _ hw'
            obtain ⟨nq, rfl⟩ := hw'
            go_wp2
            go_roundg (n - (j + 1))
            case measure => omega
            case rel =>
              go_light
              refine ⟨j + 1, by omega, by go_num, ?_, (below_drewN D1.out nq).setCell (by simp only; omega) _, (D2.out.drewN nq).set_other _ _ (by simp only; omega), ?_⟩
              · rw [Ht.out]
                refine congrArg Value.string (ByteArray.ext ?_)
                simp [ByteArray.data_append]
              · rw [Hmm.out, ← hset.out _ rfl]
                exact (D3.out.drewN nq).set_same _ _
        · obtain rfl : j = n := by omega
          clear e1
          have htake : Hid (toldL (dg k [0]) (p.sibs.take j) = toldL (dg k [0]) p.sibs) := by show _ = _; rw [List.take_of_length_le (by rw [HSl.out]; exact Nat.le_refl _)]
          rw [htake.out]
          have htl : (toldL (dg k [0]) p.sibs).length ≤ 1000 := by
            have := told_len (dg k [0]) p.sibs k j (by rw [HS.out]; intro x hx; obtain ⟨y', _, rfl⟩ := List.mem_map.1 hx; exact sibOf_length k _ hk2) (by omega) (by omega)
            rw [htake.out] at this
            exact this
          clear htake
          go_wp2
          go_loopg [13, 20] j (fun q x i wr => ∃ t : Nat, t + q = j ∧ i = .int .i64 ((j : Int) - 1 - (t : Int)) ∧ x = .string ⟨(dg k (p.up k I t)).toArray⟩ ∧ Below w.heap.size w wr ∧ Blk wr w.heap.size 33 (builtCells kd (.slice o xs.length cap) val oth) ∧ Blk wr gm 5 (u8row (marksTo (dg k [0]) p.sibs j)))
          case atStart => exact ⟨0, by omega, by go_num, by rw [HE0.out], C1.out, C2.out, C3.out⟩
          case round =>
            obtain ⟨u, hu, rfl, rfl, c1, c2, c3⟩ := hrel
            clear C1 C2 C3
            have C1 : Hid (Below w.heap.size w wr) := c1
            have C2 : Hid (Blk wr w.heap.size 33 (builtCells kd (.slice o xs.length cap) val oth)) := c2
            have C3 : Hid (Blk wr gm 5 (u8row (marksTo (dg k [0]) p.sibs j))) := c3
            clear c1 c2 c3
            by_cases hlt2 : u < j
            · obtain ⟨t, ht⟩ : ∃ t : Nat, t = j - 1 - u := ⟨_, rfl⟩
              have hti : (j : Int) - 1 - (u : Int) = (t : Int) := by omega
              rw [hti]
              have Ht : Hid (t = j - 1 - u) := ht
              have htl' : t < j := by omega
              have Hti : Hid ((t : Int) - 1 = (j : Int) - 1 - ((u + 1 : Nat) : Int)) := by show _ = _; omega
              clear ht hti
              obtain ⟨b, off, rfl, hcap, hbw, hcell⟩ : ∃ b off, o = some ⟨b, off, none⟩ ∧ xs.length ≤ cap ∧ b < w.heap.size ∧ ∀ i, i < xs.length → w.cell? ⟨b, off + i, none⟩ = some (.int .i64 (xs.getD i 0)) := by
                rcases HX3.out with h | h
                · rw [h] at hnx; simp at hnx; omega
                · exact h
              have e1 : wr.cell? ⟨w.heap.size, 1, none⟩ = some (.slice (some ⟨b, off, none⟩) xs.length cap) := (C2.out.cell 1).trans rfl
              have eX : wr.cell? ⟨b, off + t, none⟩ = some (.int .i64 (xs.getD t 0)) := by rw [C1.out.cell (p := ⟨b, off + t, none⟩) hbw]; exact hcell t (by omega)
              have hxm : xs.getD t 0 ∈ xs := by rw [List.getD_eq_getElem?_getD, List.getElem?_eq_getElem (by omega)]; exact List.getElem_mem _
              obtain ⟨y1, y2⟩ := HX1.out _ hxm
              have hSj : Hid (p.sibs.getD t [] = sibOf k (xs.getD t 0)) := by
                show _ = _
                rw [HS.out, List.getD_eq_getElem?_getD, List.getElem?_map, List.getElem?_take, if_pos (by omega), List.getD_eq_getElem?_getD, List.getElem?_eq_getElem (by omega)]
                rfl
              have hsl : (sibOf k (xs.getD t 0)).length = k := sibOf_length k _ hk2
              have U0 : Hid (bitN I t = 0 → p.up k I (u + 1) = 2 :: (dg k (p.up k I u) ++ sibOf k (xs.getD t 0))) := fun h => by
                have e : p.sibs.length - 1 - u = t := by rw [HSl.out]; exact Ht.out.symm
                rw [PW.up, e, if_pos h, hSj.out]
              have U1 : Hid (bitN I t = 1 → p.up k I (u + 1) = 2 :: (sibOf k (xs.getD t 0) ++ dg k (p.up k I u))) := fun h => by
                have e : p.sibs.length - 1 - u = t := by rw [HSl.out]; exact Ht.out.symm
                rw [PW.up, e, if_neg (by omega), hSj.out]
              have hel : (dg k (p.up k I u)).length = k := dg_length k _ hk2
              clear hxm hcell
              generalize xs.getD t 0 = y at *
              have i1 : (t : Int) < (xs.length : Int) := by omega
              go_wp2_with fail
              refine (sibling_any k y wr hk1 hk2 y1 y2 (HT.out.below C1.out (Nat.le_refl _))).mono ?_
              rintro e w6 ⟨rfl, hb6⟩
              have D1 := below_then' C1.out hb6 C1.out.size
              have D2 : Hid (Blk w6 w.heap.size 33 (builtCells kd (.slice (some ⟨b, off, none⟩) xs.length cap) val oth)) := C2.out.below hb6 C2.out.lt
              have D3 : Hid (Blk w6 gm 5 (u8row (marksTo (dg k [0]) p.sibs j))) := C3.out.below hb6 C3.out.lt
              clear hb6 C1 C2 C3 e1 eX
              generalize sibOf k y = Z at *
              generalize dg k (p.up k I u) = E at *
              have hI32 : (⟨I.toArray⟩ : ByteArray).size = 32 := hIl
              go_wp2_with fail
              refine (kbit_any ⟨I.toArray⟩ t w6 (by rw [hI32]; omega) (by omega) (by omega)).mono ?_
              rw [show (⟨I.toArray⟩ : ByteArray).data.toList = I from rfl]
              rintro e w7 ⟨rfl, hw7⟩
              obtain rfl : w6 = w7 := hw7.symm
              clear hw7
              have hbn := bitN_lt I t
              generalize bitN I t = bt at *
              have HTb : Hid (Tabs w6) := HT.out.below D1.out (Nat.le_refl _)
              have sE : (⟨E.toArray⟩ : ByteArray).size = k := hel
              have sZ : (⟨Z.toArray⟩ : ByteArray).size = k := hsl
              rcases hbn with rfl | rfl
              · have hap : Hid ((⟨#[2]⟩ : ByteArray) ++ ⟨E.toArray⟩ ++ ⟨Z.toArray⟩ = ⟨(p.up k I (u + 1)).toArray⟩) := by
                  rw [U0.out rfl]
                  apply ByteArray.ext
                  apply Array.toList_inj.1
                  simp [ByteArray.data_append]
                have hul : (p.up k I (u + 1)).length ≤ 65 := up_length k I p hk2 hIl HOk.out _ (by rw [HSl.out]; omega)
                go_wp2_with fail
                rw [hap.out]
                refine (sealed_any k ⟨(p.up k I (u + 1)).toArray⟩ w6 hk1 hk2 (by show (p.up k I (u + 1)).length ≤ _; omega) HTb.out).mono ?_
                rintro e w8 ⟨rfl, hb8⟩
                have F1 := below_then' D1.out hb8 D1.out.size
                have F2 : Hid (Blk w8 w.heap.size 33 (builtCells kd (.slice (some ⟨b, off, none⟩) xs.length cap) val oth)) := D2.out.below hb8 D2.out.lt
                have F3 : Hid (Blk w8 gm 5 (u8row (marksTo (dg k [0]) p.sibs j))) := D3.out.below hb8 D3.out.lt
                clear hb8 hap
                go_wp2
                go_roundg (j - (u + 1))
                case measure => omega
                case rel =>
                  go_light
                  exact ⟨u + 1, by omega, by rw [← Hti.out], rfl, F1.out, F2.out, F3.out⟩
              · have hap : Hid ((⟨#[2]⟩ : ByteArray) ++ ⟨Z.toArray⟩ ++ ⟨E.toArray⟩ = ⟨(p.up k I (u + 1)).toArray⟩) := by
                  rw [U1.out rfl]
                  apply ByteArray.ext
                  apply Array.toList_inj.1
                  simp [ByteArray.data_append]
                have hul : (p.up k I (u + 1)).length ≤ 65 := up_length k I p hk2 hIl HOk.out _ (by rw [HSl.out]; omega)
                go_wp2_with fail
                rw [hap.out]
                refine (sealed_any k ⟨(p.up k I (u + 1)).toArray⟩ w6 hk1 hk2 (by show (p.up k I (u + 1)).length ≤ _; omega) HTb.out).mono ?_
                rintro e w8 ⟨rfl, hb8⟩
                have F1 := below_then' D1.out hb8 D1.out.size
                have F2 : Hid (Blk w8 w.heap.size 33 (builtCells kd (.slice (some ⟨b, off, none⟩) xs.length cap) val oth)) := D2.out.below hb8 D2.out.lt
                have F3 : Hid (Blk w8 gm 5 (u8row (marksTo (dg k [0]) p.sibs j))) := D3.out.below hb8 D3.out.lt
                clear hb8 hap
                go_wp2
                go_roundg (j - (u + 1))
                case measure => omega
                case rel =>
                  go_light
                  exact ⟨u + 1, by omega, by rw [← Hti.out], rfl, F1.out, F2.out, F3.out⟩
            · obtain rfl : u = j := by omega
              have hst1 : (convert 42 9 (.slice (some ⟨wr.heap.size, 0, none⟩) 3 3)).run Tryd.prog (wr.alloc (.cells #[.int .u8 1, .int .u8 0, .int .u8 (u : Int)] 5)) = .ok (.string ⟨#[UInt8.ofNat 1, 0, UInt8.ofNat u]⟩) (wr.alloc (.cells #[.int .u8 1, .int .u8 0, .int .u8 (u : Int)] 5)) := by
                have hB : Blk (wr.alloc (.cells #[.int .u8 1, .int .u8 0, .int .u8 (u : Int)] 5)) wr.heap.size 5 (u8row [UInt8.ofNat 1, 0, UInt8.ofNat u]) := by
                  have h := Blk.new wr 5 #[.int .u8 1, .int .u8 0, .int .u8 (u : Int)]
                  rw [show u8row [UInt8.ofNat 1, 0, UInt8.ofNat u] = #[.int .u8 1, .int .u8 0, .int .u8 (u : Int)] by
                    show #[Value.int .u8 ((UInt8.ofNat 1).toNat : Int), .int .u8 ((0 : UInt8).toNat : Int), .int .u8 ((UInt8.ofNat u).toNat : Int)] = _
                    rw [show ((UInt8.ofNat u).toNat : Int) = (u : Int) by rw [UInt8.toNat_ofNat']; omega]
                    rfl]
                  exact h
                exact str_row hB 3
              have hst2 : (convert 42 9 (.slice (some ⟨gm, 0, none⟩) nb nb)).run Tryd.prog (wr.alloc (.cells #[.int .u8 1, .int .u8 0, .int .u8 (u : Int)] 5)) = .ok (.string ⟨(marksTo (dg k [0]) p.sibs u).toArray⟩) (wr.alloc (.cells #[.int .u8 1, .int .u8 0, .int .u8 (u : Int)] 5)) := by
                have h := str_row (C3.out.alloc (.cells #[.int .u8 1, .int .u8 0, .int .u8 (u : Int)] 5)) nb
                rw [show (marksTo (dg k [0]) p.sibs u).length = nb by rw [marksTo_length, HSl.out, Hnb.out]] at h
                exact h
              have Bf : Hid (Below w.heap.size w (wr.alloc (.cells #[.int .u8 1, .int .u8 0, .int .u8 (u : Int)] 5))) := C1.out.alloc C1.out.size _
              have hml : (⟨(marksTo (dg k [0]) p.sibs u).toArray⟩ : ByteArray).size ≤ 3 := by show (marksTo (dg k [0]) p.sibs u).length ≤ 3; rw [marksTo_length, HSl.out]; have := Hnb.out; omega
              have htb : (⟨(toldL (dg k [0]) p.sibs).toArray⟩ : ByteArray).size ≤ 1000 := htl
              have hfin : Hid ((⟨#[UInt8.ofNat 1, 0, UInt8.ofNat u]⟩ : ByteArray) ++ ⟨(marksTo (dg k [0]) p.sibs u).toArray⟩ ++ ⟨(toldL (dg k [0]) p.sibs).toArray⟩ ++ ⟨V.toArray⟩ = ⟨(encode k p).toArray⟩) := by
                have h1 : p.kind = 1 := by rw [Hp.out]
                apply ByteArray.ext
                apply Array.toList_inj.1
                rw [encode, h1, HSl.out, HR.out]
                simp [ByteArray.data_append]
              have h3s : (⟨#[UInt8.ofNat 1, 0, UInt8.ofNat u]⟩ : ByteArray).size = 3 := rfl
              generalize (⟨#[UInt8.ofNat 1, 0, UInt8.ofNat u]⟩ : ByteArray) = A1 at *
              generalize (⟨(marksTo (dg k [0]) p.sibs u).toArray⟩ : ByteArray) = A2 at *
              generalize (⟨(toldL (dg k [0]) p.sibs).toArray⟩ : ByteArray) = A3 at *
              go_wp2
              go_ret2
              refine ⟨Bf.out, ?_⟩
              rw [HPW.out, HI.out, ← hfin.out, show p.root k I = dg k (p.up k I u) by rw [PW.root, PW.textAt, HSl.out, Nat.sub_zero]]
              rfl
    · obtain ⟨p, hp⟩ : ∃ p : PW, p = ⟨2, (xs.take 20).map (sibOf k), [], flipAt I ((xs.take 20).length + (pickZ oth ((256 - (xs.take 20).length : Nat) : Int)).toNat), dg k (4 :: valOf val)⟩ := ⟨_, rfl⟩
      have Hp : Hid (p = ⟨2, (xs.take 20).map (sibOf k), [], flipAt I ((xs.take 20).length + (pickZ oth ((256 - (xs.take 20).length : Nat) : Int)).toNat), dg k (4 :: valOf val)⟩) := hp
      have HPW : Hid (builtPW k (idxOf num) (pickZ kd 3).toNat (xs.take 20) val oth = p) := by show _ = _; rw [HM.out, hp, HI.out]; rfl
      clear hp
      have e3 : (Lib.bytesWorld w2 5 ⟨I.toArray⟩).cell? ⟨w.heap.size, 3, none⟩ = some (.int .i64 oth) := ((k2.out.below (below_bytes w2 _ _) k2.out.lt).cell 3).trans rfl
      have hcv := fun W ss => Lib.run_convert_string_bytes (P := Tryd.prog) W 9 42 5 ss Tryd.underlying9 Tryd.underlying42 Tryd.underlying5
      have b4 : Hid (Below w.heap.size w (Lib.bytesWorld w2 5 ⟨I.toArray⟩)) := b2.out.trans ((below_bytes w2 _ _).mono b2.out.size)
      have k4 : Hid (Blk (Lib.bytesWorld w2 5 ⟨I.toArray⟩) w.heap.size 33 (builtCells kd (.slice o xs.length cap) val oth)) := k2.out.below (below_bytes w2 _ _) k2.out.lt
      have sI : (⟨I.toArray⟩ : ByteArray).size = 32 := hIl
      have o4 : Hid (Own (Lib.bytesWorld w2 5 ⟨I.toArray⟩) (w.heap.size + 1) 5 (.slice (some ⟨w2.heap.size, 0, none⟩) 32 (grownCap w2 32 0 5)) 32 (I.map fun b => .int .u8 (b.toNat : Int))) := by
        have h := own_bytes w2 (w.heap.size + 1) 5 ⟨I.toArray⟩ k2.out.lt
        rw [sI] at h
        exact h
      go_wp2_with fail
      clear hcv
      generalize Lib.bytesWorld w2 5 ⟨I.toArray⟩ = w4 at *
      generalize grownCap w2 32 0 5 = cb at *
      clear b2 k2
      generalize w2.heap.size = gb at *
      refine (pick_any oth (256 - (n : Int)) w4 a5 a6 (by omega) (by omega)).mono ?_
      rintro e w5 ⟨rfl, hw5⟩
      obtain rfl : w4 = w5 := hw5.symm
      clear hw5
      obtain ⟨t0, ht0, ht0l⟩ := pickZ_nat oth (256 - n) (by omega)
      have hcast : ((256 - n : Nat) : Int) = 256 - (n : Int) := by omega
      have HO : Hid (p.other = flipAt I (n + t0)) := by
        show _ = _
        rw [Hp.out]
        show flipAt I ((xs.take 20).length + (pickZ oth ((256 - (xs.take 20).length : Nat) : Int)).toNat) = _
        rw [← Hn.out, ht0]
        rfl
      have HDg : Hid (p.digest = dg k (4 :: valOf val)) := by show _ = _; rw [Hp.out]
      rw [hcast] at ht0
      rw [ht0]
      clear ht0 hcast
      obtain ⟨t, ht⟩ : ∃ t, n + t0 = t := ⟨_, rfl⟩
      rw [ht] at HO
      have hti : (n : Int) + (t0 : Int) = (t : Int) := by omega
      have ht256 : t < 256 := by omega
      have hnt : n ≤ t := by omega
      have Hti : Hid ((n : Int) + (t0 : Int) = (t : Int)) := hti
      clear ht hti e3
      have hOl : (flipAt I t).length = 32 := by rw [flipAt, List.length_set]; exact hIl
      have HOk : Hid (p.Ok k) := by
        show PW.Ok k p
        have h1 : p.other.length = 32 := by rw [HO.out]; exact hOl
        have h2 : p.digest.length = k := by rw [HDg.out]; exact dg_length k _ hk2
        refine ⟨?_, ?_, ?_, by omega, by omega, ?_⟩
        · rw [Hp.out]; simp; omega
        · rw [Hp.out]; exact fun x hx => by obtain ⟨y', _, rfl⟩ := List.mem_map.1 hx; exact sibOf_length k _ hk2
        · rw [Hp.out]; simp
        · rw [Hp.out]; simp
      have eM : w4.cell? ⟨gb, t / 8, none⟩ = some (.int .u8 ((I.getD (t / 8) 0).toNat : Int)) := by
        rw [o4.out.cell (t / 8) (by omega), List.getElem?_map, List.getD_eq_getElem?_getD, List.getElem?_eq_getElem (by omega)]
        rfl
      have fM : w4.frozen? ⟨gb, t / 8, none⟩ = false := o4.out.frozen _ (by omega)
      have hxo : bits .xor .u8 ((I.getD (t / 8) 0).toNat : Int) (128 / 2 ^ (t % 8)) = ((xorBit (I.getD (t / 8) 0) (t % 8)).toNat : Int) := xor_byte _ _ (Nat.mod_lt _ (by omega))
      have hFl : Hid (flipAt I t = I.set (t / 8) (xorBit (I.getD (t / 8) 0) (t % 8))) := rfl
      have hx256 := (I.getD (t / 8) 0).toNat_lt
      obtain ⟨hgb1, hgb2, hcb⟩ := o4.out.base
      generalize I.getD (t / 8) 0 = x8 at *
      have i3 : (t : Int) / 8 < 32 := by omega
      have i5 : (0 : Int) ≤ (t : Int) / 8 := by omega
      go_wp2
      rw [Hti.out]
      refine Tail.tail_drew 13 (by kernel_rfl) (by kernel_rfl) ?_
      simp only [List.take_succ_cons, List.take_zero, List.drop_succ_cons, List.drop_zero]
      repeat (any_goals (first | go_big_quiet_step ((fail)) | quiet_step ((fail))))
      refine wpQuiet_nil ?_
      intro _ hw'
      obtain ⟨nq, rfl⟩ := hw'
      go_upto_region 17 with (fail)
      have b5 : Hid (Below w.heap.size w ((w4.drewN nq).setCell ⟨gb, t / 8, none⟩ (.int .u8 ((xorBit x8 (t % 8)).toNat : Int)))) := (below_drewN b4.out nq).setCell (by simp only; omega) _
      have k5 : Hid (Blk ((w4.drewN nq).setCell ⟨gb, t / 8, none⟩ (.int .u8 ((xorBit x8 (t % 8)).toNat : Int))) w.heap.size 33 (builtCells kd (.slice o xs.length cap) val oth)) := (k4.out.drewN nq).set_other _ _ (by simp only; omega)
      have o5 : Hid (Own ((w4.drewN nq).setCell ⟨gb, t / 8, none⟩ (.int .u8 ((xorBit x8 (t % 8)).toNat : Int))) (w.heap.size + 1) 5 (.slice (some ⟨gb, 0, none⟩) 32 cb) 32 ((flipAt I t).map fun b => .int .u8 (b.toNat : Int))) := by
        have h := (o4.out.kept (w' := w4.drewN nq) fun _ _ => rfl).stored (t / 8) (.int .u8 ((xorBit x8 (t % 8)).toNat : Int))
        rw [show (I.map fun b => Value.int .u8 (b.toNat : Int)).set (t / 8) (.int .u8 ((xorBit x8 (t % 8)).toNat : Int)) = (flipAt I t).map fun b => .int .u8 (b.toNat : Int) by rw [hFl.out, List.map_set]] at h
        exact h
      clear b4 k4 o4 eM fM hxo hFl i3 i5 hx256
      generalize (w4.drewN nq).setCell ⟨gb, t / 8, none⟩ (.int .u8 ((xorBit x8 (t % 8)).toNat : Int)) = w5 at *
      have hVl := valOf_length val
      have e2 : ∀ (d : Nat) (os : Array Obj), (Go.Sort.grow (redrawn w5 d) os).cell? ⟨w.heap.size, 2, none⟩ = some (.int .i64 val) := fun d os => ((k5.out.below (below_regrown w5 d os) k5.out.lt).cell 2).trans rfl
      have HH1 : Hid (∀ (d : Nat) (os : Array Obj), Calls Tryd.prog 20 #[.int .i64 val] (Go.Sort.grow (redrawn w5 d) os) fun e w'' => e = .returned (.string ⟨(valOf val).toArray⟩) ∧ ∃ p : Regrown, w'' = Go.Sort.grow (redrawn w5 p.d) p.os) := fun d os => Calls.regrown_of (valueOf_any val _ a3 a4)
      have HH2 : Hid (∀ (d : Nat) (os : Array Obj), Calls Tryd.prog 30 #[.int .i64 k, .string ((⟨#[4]⟩ : ByteArray) ++ ⟨(valOf val).toArray⟩)] (Go.Sort.grow (redrawn w5 d) os) fun e w'' => e = .returned (.string ⟨(dg k (4 :: valOf val)).toArray⟩) ∧ ∃ p : Regrown, w'' = Go.Sort.grow (redrawn w5 p.d) p.os) := fun d os => by
        have hap4 : (⟨#[4]⟩ : ByteArray) ++ ⟨(valOf val).toArray⟩ = ⟨(4 :: valOf val).toArray⟩ := by
          apply ByteArray.ext
          apply Array.toList_inj.1
          simp [ByteArray.data_append]
        rw [hap4]
        exact Calls.regrown_of (sealed_any k ⟨(4 :: valOf val).toArray⟩ _ hk1 hk2 (by show (4 :: valOf val).length ≤ _; simp; omega) ((HT.out.below b5.out (Nat.le_refl _)).below (below_regrown w5 d os) (Nat.le_refl _)))
      have Hst : Hid (∀ (d : Nat) (os : Array Obj), (convert 42 9 (.slice (some ⟨gb, 0, none⟩) 32 cb)).run Tryd.prog (Go.Sort.grow (redrawn w5 d) os) = .ok (.string ⟨(flipAt I t).toArray⟩) (Go.Sort.grow (redrawn w5 d) os)) := fun d os => by
        have h := run_string_of (P := Tryd.prog) (Go.Sort.grow (redrawn w5 d) os) 42 9 5 gb 0 cb (flipAt I t) Tryd.underlying42 Tryd.underlying5 Tryd.underlying9 (fun j hj => by
          rw [Nat.zero_add, (o5.out.below (below_regrown w5 d os) (Nat.le_refl _)).cell j (by omega), List.getElem?_map, List.getD_eq_getElem?_getD, List.getElem?_eq_getElem hj]
          rfl)
        rw [hOl] at h
        exact h
      have hYl : (dg k (4 :: valOf val)).length = k := dg_length k _ hk2
      generalize dg k (4 :: valOf val) = Y at *
      generalize valOf val = V at *
      generalize flipAt I t = O at *
      have sV : (⟨V.toArray⟩ : ByteArray).size ≤ 4 := hVl
      have sO : (⟨O.toArray⟩ : ByteArray).size = 32 := hOl
      have sY : (⟨Y.toArray⟩ : ByteArray).size = k := hYl
      have hst := Hst.out
      go_wp2
      refine wp_region_quiet_below (by kernel_rfl) (by kernel_rfl) ?_
      repeat (any_goals (first | go_big_quiet_step ((first | (go_at_call 20; exact HH1.out _ _) | (go_at_call 30; exact HH2.out _ _))) | quiet_step ((first | (go_at_call 20; exact HH1.out _ _) | (go_at_call 30; exact HH2.out _ _)))))
      refine wpQuiet_nil ?_
      intro w6 hw'
      obtain ⟨z, hz⟩ := hw'
      have hb : Hid (Below w5.heap.size w5 w6) := by rw [hz]; exact below_regrown w5 z.d z.os
      clear hz HH1 HH2 Hst hst e2
      have b6 := below_then' b5.out hb.out b5.out.size
      have k6 : Hid (Blk w6 w.heap.size 33 (builtCells kd (.slice o xs.length cap) val oth)) := k5.out.below hb.out k5.out.lt
      clear b5 k5 o5 hb
      have HR : Hid (restOf p = O ++ Y) := by
        show _ = _
        rw [restOf, show p.kind = 2 by rw [Hp.out], if_neg (by decide), if_pos rfl, HO.out, HDg.out]
      have HEnd : Hid (p.endText k I = 1 :: (O ++ Y)) := by
        show _ = _
        rw [PW.endText, show p.kind = 2 by rw [Hp.out], if_neg (by decide), if_pos rfl, HO.out, HDg.out]
      have hOY : Hid ((⟨O.toArray⟩ : ByteArray) ++ ⟨Y.toArray⟩ = ⟨(O ++ Y).toArray⟩) := by
        apply ByteArray.ext
        apply Array.toList_inj.1
        simp [ByteArray.data_append]
      rw [hOY.out]
      have hRl : (O ++ Y).length ≤ 64 := by rw [List.length_append]; omega
      clear hOY
      generalize O ++ Y = RL at *
      have sR : (⟨RL.toArray⟩ : ByteArray).size ≤ 64 := hRl
      have hap1 : Hid ((⟨#[1]⟩ : ByteArray) ++ ⟨RL.toArray⟩ = ⟨(p.up k I 0).toArray⟩) := by
        rw [show p.up k I 0 = p.endText k I from rfl, HEnd.out]
        apply ByteArray.ext
        apply Array.toList_inj.1
        simp [ByteArray.data_append]
      have hul : (p.up k I 0).length ≤ 65 := up_length k I p hk2 hIl HOk.out 0 (by omega)
      go_wp2_with fail
      rw [hap1.out]
      refine (sealed_any k ⟨(p.up k I 0).toArray⟩ w6 hk1 hk2 (by show (p.up k I 0).length ≤ _; omega) (HT.out.below b6.out (Nat.le_refl _))).mono ?_
      rintro e w7 ⟨rfl, hb⟩
      rw [show dg k (⟨(p.up k I 0).toArray⟩ : ByteArray).data.toList = dg k (p.up k I 0) from rfl]
      have b7 := below_then' b6.out hb b6.out.size
      have k7 : Hid (Blk w7 w.heap.size 33 (builtCells kd (.slice o xs.length cap) val oth)) := k6.out.below hb k6.out.lt
      clear hb b6 k6 hap1 hul
      obtain ⟨E0, hE0⟩ : ∃ E0, dg k (p.up k I 0) = E0 := ⟨_, rfl⟩
      rw [hE0]
      have HE0 : Hid (E0 = dg k (p.up k I 0)) := hE0.symm
      clear hE0
      have HS : Hid (p.sibs = (xs.take 20).map (sibOf k)) := by show _ = _; rw [Hp.out]
      have hSl : p.sibs.length = n := by rw [HS.out, List.length_map]; exact Hn.out.symm
      have HSl : Hid (p.sibs.length = n) := hSl
      clear hSl
      obtain ⟨nb, hnb⟩ : ∃ nb : Nat, nb = (n + 7) / 8 := ⟨_, rfl⟩
      have hnbi : ((n : Int) + 7) / 8 = (nb : Int) := by omega
      have Hnb : Hid (nb = (n + 7) / 8) := hnb
      have hnb3 : nb ≤ 3 := by omega
      clear hnb
      have hmk := make_bytes nb (by omega)
      have m1 : Hid (Below w.heap.size w (w7.alloc (.cells (zrow nb) 5))) := b7.out.alloc b7.out.size _
      have m2 : Hid (Blk (w7.alloc (.cells (zrow nb) 5)) w.heap.size 33 (builtCells kd (.slice o xs.length cap) val oth)) := k7.out.alloc _
      have m3 : Hid (Blk (w7.alloc (.cells (zrow nb) 5)) w7.heap.size 5 (u8row (marksTo (dg k [0]) p.sibs 0))) := by
        have := Blk.new w7 5 (zrow nb)
        rw [show marksTo (dg k [0]) p.sibs 0 = List.replicate nb 0 by rw [marksTo, HSl.out, Hnb.out]]
        exact this
      have hgm : Hid (w.heap.size < w7.heap.size) := k7.out.lt
      go_wp2
      clear hmk
      rw [hnbi]
      clear hnbi
      generalize w7.alloc (.cells (zrow nb) 5) = wm at *
      generalize w7.heap.size = gm at *
      go_loopg [17, 18] n (fun q x i wr => ∃ j : Nat, j + q = n ∧ i = .int .i64 (j : Int) ∧ x = .string ⟨(toldL (dg k [0]) (p.sibs.take j)).toArray⟩ ∧ Below w.heap.size w wr ∧ Blk wr w.heap.size 33 (builtCells kd (.slice o xs.length cap) val oth) ∧ Blk wr gm 5 (u8row (marksTo (dg k [0]) p.sibs j)))
      case atStart => exact ⟨0, by omega, rfl, rfl, m1.out, m2.out, m3.out⟩
      case round =>
        obtain ⟨j, hj, rfl, rfl, c1, c2, c3⟩ := hrel
        clear m1 m2 m3
        have C1 : Hid (Below w.heap.size w wr) := c1
        have C2 : Hid (Blk wr w.heap.size 33 (builtCells kd (.slice o xs.length cap) val oth)) := c2
        have C3 : Hid (Blk wr gm 5 (u8row (marksTo (dg k [0]) p.sibs j))) := c3
        clear c1 c2 c3
        have e1 : wr.cell? ⟨w.heap.size, 1, none⟩ = some (.slice o xs.length cap) := (C2.out.cell 1).trans rfl
        have hgmw := hgm.out
        by_cases hlt : j < n
        · obtain ⟨b, off, rfl, hcap, hbw, hcell⟩ : ∃ b off, o = some ⟨b, off, none⟩ ∧ xs.length ≤ cap ∧ b < w.heap.size ∧ ∀ i, i < xs.length → w.cell? ⟨b, off + i, none⟩ = some (.int .i64 (xs.getD i 0)) := by
            rcases HX3.out with h | h
            · rw [h] at hnx; simp at hnx; omega
            · exact h
          have eX : wr.cell? ⟨b, off + j, none⟩ = some (.int .i64 (xs.getD j 0)) := by rw [C1.out.cell (p := ⟨b, off + j, none⟩) hbw]; exact hcell j (by omega)
          have hxm : xs.getD j 0 ∈ xs := by rw [List.getD_eq_getElem?_getD, List.getElem?_eq_getElem (by omega)]; exact List.getElem_mem _
          obtain ⟨y1, y2⟩ := HX1.out _ hxm
          have hSj : Hid (p.sibs.getD j [] = sibOf k (xs.getD j 0)) := by
            show _ = _
            rw [HS.out, List.getD_eq_getElem?_getD, List.getElem?_map, List.getElem?_take, if_pos (by omega), List.getD_eq_getElem?_getD, List.getElem?_eq_getElem (by omega)]
            rfl
          have hsl : (sibOf k (xs.getD j 0)).length = k := sibOf_length k _ hk2
          clear hxm hcell
          generalize xs.getD j 0 = y at *
          have i1 : (j : Int) < (xs.length : Int) := by omega
          go_wp2_with fail
          refine (sibling_any k y wr hk1 hk2 y1 y2 (HT.out.below C1.out (Nat.le_refl _))).mono ?_
          rintro e w6 ⟨rfl, hb6⟩
          have D1 := below_then' C1.out hb6 C1.out.size
          have D2 : Hid (Blk w6 w.heap.size 33 (builtCells kd (.slice (some ⟨b, off, none⟩) xs.length cap) val oth)) := C2.out.below hb6 C2.out.lt
          have D3 : Hid (Blk w6 gm 5 (u8row (marksTo (dg k [0]) p.sibs j))) := C3.out.below hb6 C3.out.lt
          clear hb6 C1 C2 C3 e1 eX
          have hjs : j < p.sibs.length := by rw [HSl.out]; exact hlt
          have htn : Hid (toldL (dg k [0]) (p.sibs.take (j + 1)) = toldL (dg k [0]) (p.sibs.take j) ++ (if sibOf k y = dg k [0] then [] else sibOf k y)) := by
            have := take_next (dg k [0]) p.sibs j hjs
            rw [hSj.out] at this
            exact this
          have hmn : Hid (marksTo (dg k [0]) p.sibs (j + 1) = if sibOf k y = dg k [0] then marksTo (dg k [0]) p.sibs j else (marksTo (dg k [0]) p.sibs j).set (j / 8) (orBit ((marksTo (dg k [0]) p.sibs j).getD (j / 8) 0) (j % 8))) := by
            show _ = _
            rw [marksTo, hSj.out]
          have hml : (marksTo (dg k [0]) p.sibs j).length = nb := by rw [marksTo_length, HSl.out, Hnb.out]
          have htl : (toldL (dg k [0]) (p.sibs.take j)).length ≤ 1000 := told_len _ _ k j (by rw [HS.out]; intro x hx; obtain ⟨y', _, rfl⟩ := List.mem_map.1 hx; exact sibOf_length k _ hk2) (by omega) (by omega)
          clear hjs
          have Hml : Hid ((marksTo (dg k [0]) p.sibs j).length = nb) := hml
          clear hml
          generalize marksTo (dg k [0]) p.sibs j = ML at *
          generalize toldL (dg k [0]) (p.sibs.take j) = TL at *
          generalize sibOf k y = Z at *
          by_cases hZ : Z = dg k [0]
          · have hzq : (Z == dg k [0]) = true := by rw [beq_iff_eq]; exact hZ
            have htn' := htn.out
            have hmn' := hmn.out
            rw [if_pos hZ, List.append_nil] at htn'
            rw [if_pos hZ] at hmn'
            have Ht : Hid (toldL (dg k [0]) (p.sibs.take (j + 1)) = TL) := htn'
            have Hmm : Hid (marksTo (dg k [0]) p.sibs (j + 1) = ML) := hmn'
            clear htn' hmn' htn hmn hZ
            go_wp2
            go_roundg (n - (j + 1))
            case measure => omega
            case rel =>
              go_light
              exact ⟨j + 1, by omega, by go_num, by rw [Ht.out], D1.out, D2.out, by rw [Hmm.out]; exact D3.out⟩
          · have hzq : (Z == dg k [0]) = false := by rw [beq_eq_false_iff_ne]; exact hZ
            have htn' := htn.out
            have hmn' := hmn.out
            rw [if_neg hZ] at htn'
            rw [if_neg hZ] at hmn'
            have Ht : Hid (toldL (dg k [0]) (p.sibs.take (j + 1)) = TL ++ Z) := htn'
            have Hmm : Hid (marksTo (dg k [0]) p.sibs (j + 1) = ML.set (j / 8) (orBit (ML.getD (j / 8) 0) (j % 8))) := hmn'
            clear htn' hmn' htn hmn hZ
            have hj8 : j / 8 < nb := by have := Hnb.out; omega
            have eM : w6.cell? ⟨gm, j / 8, none⟩ = some (.int .u8 ((ML.getD (j / 8) 0).toNat : Int)) := by rw [D3.out.cell]; exact u8row_get _ _ (by rw [Hml.out]; exact hj8)
            have fM : w6.frozen? ⟨gm, j / 8, none⟩ = false := D3.out.frozen _
            have hor : bits .or .u8 ((ML.getD (j / 8) 0).toNat : Int) (128 / 2 ^ (j % 8)) = ((orBit (ML.getD (j / 8) 0) (j % 8)).toNat : Int) := or_byte _ _ (Nat.mod_lt _ (by omega))
            have hx256 := (ML.getD (j / 8) 0).toNat_lt
            have hset : Hid (∀ V : Int, V = ((orBit (ML.getD (j / 8) 0) (j % 8)).toNat : Int) → (u8row ML).setIfInBounds (j / 8) (.int .u8 V) = u8row (ML.set (j / 8) (orBit (ML.getD (j / 8) 0) (j % 8)))) := fun V hV => by rw [hV]; exact u8row_set _ _ _
            generalize ML.getD (j / 8) 0 = x8 at *
            have i3 : (j : Int) / 8 < (nb : Int) := by omega
            have i5 : (0 : Int) ≤ (j : Int) / 8 := by omega
            go_wp2
            refine Tail.tail_drew 13 (by kernel_rfl) (by kernel_rfl) ?_
            simp only [List.take_succ_cons, List.take_zero, List.drop_succ_cons, List.drop_zero]
            repeat (any_goals (first | go_big_quiet_step ((fail)) | quiet_step ((fail))))
            refine wpQuiet_nil ?_
            intro _ hw'
            obtain ⟨nq, rfl⟩ := hw'
            go_wp2
            go_roundg (n - (j + 1))
            case measure => omega
            case rel =>
              go_light
              refine ⟨j + 1, by omega, by go_num, ?_, (below_drewN D1.out nq).setCell (by simp only; omega) _, (D2.out.drewN nq).set_other _ _ (by simp only; omega), ?_⟩
              · rw [Ht.out]
                refine congrArg Value.string (ByteArray.ext ?_)
                simp [ByteArray.data_append]
              · rw [Hmm.out, ← hset.out _ rfl]
                exact (D3.out.drewN nq).set_same _ _
        · obtain rfl : j = n := by omega
          clear e1
          have htake : Hid (toldL (dg k [0]) (p.sibs.take j) = toldL (dg k [0]) p.sibs) := by show _ = _; rw [List.take_of_length_le (by rw [HSl.out]; exact Nat.le_refl _)]
          rw [htake.out]
          have htl : (toldL (dg k [0]) p.sibs).length ≤ 1000 := by
            have := told_len (dg k [0]) p.sibs k j (by rw [HS.out]; intro x hx; obtain ⟨y', _, rfl⟩ := List.mem_map.1 hx; exact sibOf_length k _ hk2) (by omega) (by omega)
            rw [htake.out] at this
            exact this
          clear htake
          go_wp2
          go_loopg [13, 20] j (fun q x i wr => ∃ t : Nat, t + q = j ∧ i = .int .i64 ((j : Int) - 1 - (t : Int)) ∧ x = .string ⟨(dg k (p.up k I t)).toArray⟩ ∧ Below w.heap.size w wr ∧ Blk wr w.heap.size 33 (builtCells kd (.slice o xs.length cap) val oth) ∧ Blk wr gm 5 (u8row (marksTo (dg k [0]) p.sibs j)))
          case atStart => exact ⟨0, by omega, by go_num, by rw [HE0.out], C1.out, C2.out, C3.out⟩
          case round =>
            obtain ⟨u, hu, rfl, rfl, c1, c2, c3⟩ := hrel
            clear C1 C2 C3
            have C1 : Hid (Below w.heap.size w wr) := c1
            have C2 : Hid (Blk wr w.heap.size 33 (builtCells kd (.slice o xs.length cap) val oth)) := c2
            have C3 : Hid (Blk wr gm 5 (u8row (marksTo (dg k [0]) p.sibs j))) := c3
            clear c1 c2 c3
            by_cases hlt2 : u < j
            · obtain ⟨t, ht⟩ : ∃ t : Nat, t = j - 1 - u := ⟨_, rfl⟩
              have hti : (j : Int) - 1 - (u : Int) = (t : Int) := by omega
              rw [hti]
              have Ht : Hid (t = j - 1 - u) := ht
              have htl' : t < j := by omega
              have Hti : Hid ((t : Int) - 1 = (j : Int) - 1 - ((u + 1 : Nat) : Int)) := by show _ = _; omega
              clear ht hti
              obtain ⟨b, off, rfl, hcap, hbw, hcell⟩ : ∃ b off, o = some ⟨b, off, none⟩ ∧ xs.length ≤ cap ∧ b < w.heap.size ∧ ∀ i, i < xs.length → w.cell? ⟨b, off + i, none⟩ = some (.int .i64 (xs.getD i 0)) := by
                rcases HX3.out with h | h
                · rw [h] at hnx; simp at hnx; omega
                · exact h
              have e1 : wr.cell? ⟨w.heap.size, 1, none⟩ = some (.slice (some ⟨b, off, none⟩) xs.length cap) := (C2.out.cell 1).trans rfl
              have eX : wr.cell? ⟨b, off + t, none⟩ = some (.int .i64 (xs.getD t 0)) := by rw [C1.out.cell (p := ⟨b, off + t, none⟩) hbw]; exact hcell t (by omega)
              have hxm : xs.getD t 0 ∈ xs := by rw [List.getD_eq_getElem?_getD, List.getElem?_eq_getElem (by omega)]; exact List.getElem_mem _
              obtain ⟨y1, y2⟩ := HX1.out _ hxm
              have hSj : Hid (p.sibs.getD t [] = sibOf k (xs.getD t 0)) := by
                show _ = _
                rw [HS.out, List.getD_eq_getElem?_getD, List.getElem?_map, List.getElem?_take, if_pos (by omega), List.getD_eq_getElem?_getD, List.getElem?_eq_getElem (by omega)]
                rfl
              have hsl : (sibOf k (xs.getD t 0)).length = k := sibOf_length k _ hk2
              have U0 : Hid (bitN I t = 0 → p.up k I (u + 1) = 2 :: (dg k (p.up k I u) ++ sibOf k (xs.getD t 0))) := fun h => by
                have e : p.sibs.length - 1 - u = t := by rw [HSl.out]; exact Ht.out.symm
                rw [PW.up, e, if_pos h, hSj.out]
              have U1 : Hid (bitN I t = 1 → p.up k I (u + 1) = 2 :: (sibOf k (xs.getD t 0) ++ dg k (p.up k I u))) := fun h => by
                have e : p.sibs.length - 1 - u = t := by rw [HSl.out]; exact Ht.out.symm
                rw [PW.up, e, if_neg (by omega), hSj.out]
              have hel : (dg k (p.up k I u)).length = k := dg_length k _ hk2
              clear hxm hcell
              generalize xs.getD t 0 = y at *
              have i1 : (t : Int) < (xs.length : Int) := by omega
              go_wp2_with fail
              refine (sibling_any k y wr hk1 hk2 y1 y2 (HT.out.below C1.out (Nat.le_refl _))).mono ?_
              rintro e w6 ⟨rfl, hb6⟩
              have D1 := below_then' C1.out hb6 C1.out.size
              have D2 : Hid (Blk w6 w.heap.size 33 (builtCells kd (.slice (some ⟨b, off, none⟩) xs.length cap) val oth)) := C2.out.below hb6 C2.out.lt
              have D3 : Hid (Blk w6 gm 5 (u8row (marksTo (dg k [0]) p.sibs j))) := C3.out.below hb6 C3.out.lt
              clear hb6 C1 C2 C3 e1 eX
              generalize sibOf k y = Z at *
              generalize dg k (p.up k I u) = E at *
              have hI32 : (⟨I.toArray⟩ : ByteArray).size = 32 := hIl
              go_wp2_with fail
              refine (kbit_any ⟨I.toArray⟩ t w6 (by rw [hI32]; omega) (by omega) (by omega)).mono ?_
              rw [show (⟨I.toArray⟩ : ByteArray).data.toList = I from rfl]
              rintro e w7 ⟨rfl, hw7⟩
              obtain rfl : w6 = w7 := hw7.symm
              clear hw7
              have hbn := bitN_lt I t
              generalize bitN I t = bt at *
              have HTb : Hid (Tabs w6) := HT.out.below D1.out (Nat.le_refl _)
              have sE : (⟨E.toArray⟩ : ByteArray).size = k := hel
              have sZ : (⟨Z.toArray⟩ : ByteArray).size = k := hsl
              rcases hbn with rfl | rfl
              · have hap : Hid ((⟨#[2]⟩ : ByteArray) ++ ⟨E.toArray⟩ ++ ⟨Z.toArray⟩ = ⟨(p.up k I (u + 1)).toArray⟩) := by
                  rw [U0.out rfl]
                  apply ByteArray.ext
                  apply Array.toList_inj.1
                  simp [ByteArray.data_append]
                have hul : (p.up k I (u + 1)).length ≤ 65 := up_length k I p hk2 hIl HOk.out _ (by rw [HSl.out]; omega)
                go_wp2_with fail
                rw [hap.out]
                refine (sealed_any k ⟨(p.up k I (u + 1)).toArray⟩ w6 hk1 hk2 (by show (p.up k I (u + 1)).length ≤ _; omega) HTb.out).mono ?_
                rintro e w8 ⟨rfl, hb8⟩
                have F1 := below_then' D1.out hb8 D1.out.size
                have F2 : Hid (Blk w8 w.heap.size 33 (builtCells kd (.slice (some ⟨b, off, none⟩) xs.length cap) val oth)) := D2.out.below hb8 D2.out.lt
                have F3 : Hid (Blk w8 gm 5 (u8row (marksTo (dg k [0]) p.sibs j))) := D3.out.below hb8 D3.out.lt
                clear hb8 hap
                go_wp2
                go_roundg (j - (u + 1))
                case measure => omega
                case rel =>
                  go_light
                  exact ⟨u + 1, by omega, by rw [← Hti.out], rfl, F1.out, F2.out, F3.out⟩
              · have hap : Hid ((⟨#[2]⟩ : ByteArray) ++ ⟨Z.toArray⟩ ++ ⟨E.toArray⟩ = ⟨(p.up k I (u + 1)).toArray⟩) := by
                  rw [U1.out rfl]
                  apply ByteArray.ext
                  apply Array.toList_inj.1
                  simp [ByteArray.data_append]
                have hul : (p.up k I (u + 1)).length ≤ 65 := up_length k I p hk2 hIl HOk.out _ (by rw [HSl.out]; omega)
                go_wp2_with fail
                rw [hap.out]
                refine (sealed_any k ⟨(p.up k I (u + 1)).toArray⟩ w6 hk1 hk2 (by show (p.up k I (u + 1)).length ≤ _; omega) HTb.out).mono ?_
                rintro e w8 ⟨rfl, hb8⟩
                have F1 := below_then' D1.out hb8 D1.out.size
                have F2 : Hid (Blk w8 w.heap.size 33 (builtCells kd (.slice (some ⟨b, off, none⟩) xs.length cap) val oth)) := D2.out.below hb8 D2.out.lt
                have F3 : Hid (Blk w8 gm 5 (u8row (marksTo (dg k [0]) p.sibs j))) := D3.out.below hb8 D3.out.lt
                clear hb8 hap
                go_wp2
                go_roundg (j - (u + 1))
                case measure => omega
                case rel =>
                  go_light
                  exact ⟨u + 1, by omega, by rw [← Hti.out], rfl, F1.out, F2.out, F3.out⟩
            · obtain rfl : u = j := by omega
              have hst1 : (convert 42 9 (.slice (some ⟨wr.heap.size, 0, none⟩) 3 3)).run Tryd.prog (wr.alloc (.cells #[.int .u8 2, .int .u8 0, .int .u8 (u : Int)] 5)) = .ok (.string ⟨#[UInt8.ofNat 2, 0, UInt8.ofNat u]⟩) (wr.alloc (.cells #[.int .u8 2, .int .u8 0, .int .u8 (u : Int)] 5)) := by
                have hB : Blk (wr.alloc (.cells #[.int .u8 2, .int .u8 0, .int .u8 (u : Int)] 5)) wr.heap.size 5 (u8row [UInt8.ofNat 2, 0, UInt8.ofNat u]) := by
                  have h := Blk.new wr 5 #[.int .u8 2, .int .u8 0, .int .u8 (u : Int)]
                  rw [show u8row [UInt8.ofNat 2, 0, UInt8.ofNat u] = #[.int .u8 2, .int .u8 0, .int .u8 (u : Int)] by
                    show #[Value.int .u8 ((UInt8.ofNat 2).toNat : Int), .int .u8 ((0 : UInt8).toNat : Int), .int .u8 ((UInt8.ofNat u).toNat : Int)] = _
                    rw [show ((UInt8.ofNat u).toNat : Int) = (u : Int) by rw [UInt8.toNat_ofNat']; omega]
                    rfl]
                  exact h
                exact str_row hB 3
              have hst2 : (convert 42 9 (.slice (some ⟨gm, 0, none⟩) nb nb)).run Tryd.prog (wr.alloc (.cells #[.int .u8 2, .int .u8 0, .int .u8 (u : Int)] 5)) = .ok (.string ⟨(marksTo (dg k [0]) p.sibs u).toArray⟩) (wr.alloc (.cells #[.int .u8 2, .int .u8 0, .int .u8 (u : Int)] 5)) := by
                have h := str_row (C3.out.alloc (.cells #[.int .u8 2, .int .u8 0, .int .u8 (u : Int)] 5)) nb
                rw [show (marksTo (dg k [0]) p.sibs u).length = nb by rw [marksTo_length, HSl.out, Hnb.out]] at h
                exact h
              have Bf : Hid (Below w.heap.size w (wr.alloc (.cells #[.int .u8 2, .int .u8 0, .int .u8 (u : Int)] 5))) := C1.out.alloc C1.out.size _
              have hml : (⟨(marksTo (dg k [0]) p.sibs u).toArray⟩ : ByteArray).size ≤ 3 := by show (marksTo (dg k [0]) p.sibs u).length ≤ 3; rw [marksTo_length, HSl.out]; have := Hnb.out; omega
              have htb : (⟨(toldL (dg k [0]) p.sibs).toArray⟩ : ByteArray).size ≤ 1000 := htl
              have hfin : Hid ((⟨#[UInt8.ofNat 2, 0, UInt8.ofNat u]⟩ : ByteArray) ++ ⟨(marksTo (dg k [0]) p.sibs u).toArray⟩ ++ ⟨(toldL (dg k [0]) p.sibs).toArray⟩ ++ ⟨RL.toArray⟩ = ⟨(encode k p).toArray⟩) := by
                have h1 : p.kind = 2 := by rw [Hp.out]
                apply ByteArray.ext
                apply Array.toList_inj.1
                rw [encode, h1, HSl.out, HR.out]
                simp [ByteArray.data_append]
              have h3s : (⟨#[UInt8.ofNat 2, 0, UInt8.ofNat u]⟩ : ByteArray).size = 3 := rfl
              generalize (⟨#[UInt8.ofNat 2, 0, UInt8.ofNat u]⟩ : ByteArray) = A1 at *
              generalize (⟨(marksTo (dg k [0]) p.sibs u).toArray⟩ : ByteArray) = A2 at *
              generalize (⟨(toldL (dg k [0]) p.sibs).toArray⟩ : ByteArray) = A3 at *
              go_wp2
              go_ret2
              refine ⟨Bf.out, ?_⟩
              rw [HPW.out, HI.out, ← hfin.out, show p.root k I = dg k (p.up k I u) by rw [PW.root, PW.textAt, HSl.out, Nat.sub_zero]]
              rfl
  · have hnl : xs.length = n := by omega
    have hnli : ((xs.length : Nat) : Int) = (n : Int) := by omega
    have hbig' : (xs.length : Int) ≤ 20 := by omega
    clear hn
    have Hnli : Hid (((xs.length : Nat) : Int) = (n : Int)) := hnli
    clear hnli hnl
    go_wp2_with fail
    rw [Hnli.out]
    clear hbig'
    refine (pick_any kd 3 w2 a1 a2 (by omega) (by omega)).mono ?_
    rintro e w3 ⟨rfl, hw3⟩
    obtain rfl : w2 = w3 := hw3.symm
    clear hw3 e0 e1
    obtain ⟨m, hm, hm3⟩ := pickZ_nat kd 3 (by omega)
    have HM : Hid ((pickZ kd 3).toNat = m) := by
      have h : pickZ kd 3 = (m : Int) := hm
      show _ = _
      omega
    rw [show pickZ kd 3 = (m : Int) from hm]
    clear hm
    obtain rfl | rfl | rfl : m = 0 ∨ m = 1 ∨ m = 2 := by omega
    · obtain ⟨p, hp⟩ : ∃ p : PW, p = ⟨0, (xs.take 20).map (sibOf k), [], [], []⟩ := ⟨_, rfl⟩
      have Hp : Hid (p = ⟨0, (xs.take 20).map (sibOf k), [], [], []⟩) := hp
      have HPW : Hid (builtPW k (idxOf num) (pickZ kd 3).toNat (xs.take 20) val oth = p) := by show _ = _; rw [HM.out, hp]; rfl
      clear hp
      have HE0 : Hid (dg k [0] = dg k (p.up k I 0)) := by show _ = _; rw [Hp.out]; rfl
      have HR : Hid (restOf p = []) := by show _ = _; rw [Hp.out]; rfl
      have HOk : Hid (p.Ok k) := by
        show PW.Ok k p
        rw [Hp.out]
        exact ⟨by simp; omega, fun x hx => by obtain ⟨y', _, rfl⟩ := List.mem_map.1 hx; exact sibOf_length k _ hk2, by simp, by simp, by simp, by simp⟩
      have HS : Hid (p.sibs = (xs.take 20).map (sibOf k)) := by show _ = _; rw [Hp.out]
      have hSl : p.sibs.length = n := by rw [HS.out, List.length_map]; exact Hn.out.symm
      have HSl : Hid (p.sibs.length = n) := hSl
      clear hSl
      obtain ⟨nb, hnb⟩ : ∃ nb : Nat, nb = (n + 7) / 8 := ⟨_, rfl⟩
      have hnbi : ((n : Int) + 7) / 8 = (nb : Int) := by omega
      have Hnb : Hid (nb = (n + 7) / 8) := hnb
      have hnb3 : nb ≤ 3 := by omega
      clear hnb
      have hmk := make_bytes nb (by omega)
      have m1 : Hid (Below w.heap.size w (w2.alloc (.cells (zrow nb) 5))) := b2.out.alloc b2.out.size _
      have m2 : Hid (Blk (w2.alloc (.cells (zrow nb) 5)) w.heap.size 33 (builtCells kd (.slice o xs.length cap) val oth)) := k2.out.alloc _
      have m3 : Hid (Blk (w2.alloc (.cells (zrow nb) 5)) w2.heap.size 5 (u8row (marksTo (dg k [0]) p.sibs 0))) := by
        have := Blk.new w2 5 (zrow nb)
        rw [show marksTo (dg k [0]) p.sibs 0 = List.replicate nb 0 by rw [marksTo, HSl.out, Hnb.out]]
        exact this
      have hgm : Hid (w.heap.size < w2.heap.size) := k2.out.lt
      go_wp2
      clear hmk
      rw [hnbi]
      clear hnbi
      generalize w2.alloc (.cells (zrow nb) 5) = wm at *
      generalize w2.heap.size = gm at *
      go_loopg [17, 18] n (fun q x i wr => ∃ j : Nat, j + q = n ∧ i = .int .i64 (j : Int) ∧ x = .string ⟨(toldL (dg k [0]) (p.sibs.take j)).toArray⟩ ∧ Below w.heap.size w wr ∧ Blk wr w.heap.size 33 (builtCells kd (.slice o xs.length cap) val oth) ∧ Blk wr gm 5 (u8row (marksTo (dg k [0]) p.sibs j)))
      case atStart => exact ⟨0, by omega, rfl, rfl, m1.out, m2.out, m3.out⟩
      case round =>
        obtain ⟨j, hj, rfl, rfl, c1, c2, c3⟩ := hrel
        clear m1 m2 m3
        have C1 : Hid (Below w.heap.size w wr) := c1
        have C2 : Hid (Blk wr w.heap.size 33 (builtCells kd (.slice o xs.length cap) val oth)) := c2
        have C3 : Hid (Blk wr gm 5 (u8row (marksTo (dg k [0]) p.sibs j))) := c3
        clear c1 c2 c3
        have e1 : wr.cell? ⟨w.heap.size, 1, none⟩ = some (.slice o xs.length cap) := (C2.out.cell 1).trans rfl
        have hgmw := hgm.out
        by_cases hlt : j < n
        · obtain ⟨b, off, rfl, hcap, hbw, hcell⟩ : ∃ b off, o = some ⟨b, off, none⟩ ∧ xs.length ≤ cap ∧ b < w.heap.size ∧ ∀ i, i < xs.length → w.cell? ⟨b, off + i, none⟩ = some (.int .i64 (xs.getD i 0)) := by
            rcases HX3.out with h | h
            · rw [h] at hnx; simp at hnx; omega
            · exact h
          have eX : wr.cell? ⟨b, off + j, none⟩ = some (.int .i64 (xs.getD j 0)) := by rw [C1.out.cell (p := ⟨b, off + j, none⟩) hbw]; exact hcell j (by omega)
          have hxm : xs.getD j 0 ∈ xs := by rw [List.getD_eq_getElem?_getD, List.getElem?_eq_getElem (by omega)]; exact List.getElem_mem _
          obtain ⟨y1, y2⟩ := HX1.out _ hxm
          have hSj : Hid (p.sibs.getD j [] = sibOf k (xs.getD j 0)) := by
            show _ = _
            rw [HS.out, List.getD_eq_getElem?_getD, List.getElem?_map, List.getElem?_take, if_pos (by omega), List.getD_eq_getElem?_getD, List.getElem?_eq_getElem (by omega)]
            rfl
          have hsl : (sibOf k (xs.getD j 0)).length = k := sibOf_length k _ hk2
          clear hxm hcell
          generalize xs.getD j 0 = y at *
          have i1 : (j : Int) < (xs.length : Int) := by omega
          go_wp2_with fail
          refine (sibling_any k y wr hk1 hk2 y1 y2 (HT.out.below C1.out (Nat.le_refl _))).mono ?_
          rintro e w6 ⟨rfl, hb6⟩
          have D1 := below_then' C1.out hb6 C1.out.size
          have D2 : Hid (Blk w6 w.heap.size 33 (builtCells kd (.slice (some ⟨b, off, none⟩) xs.length cap) val oth)) := C2.out.below hb6 C2.out.lt
          have D3 : Hid (Blk w6 gm 5 (u8row (marksTo (dg k [0]) p.sibs j))) := C3.out.below hb6 C3.out.lt
          clear hb6 C1 C2 C3 e1 eX
          have hjs : j < p.sibs.length := by rw [HSl.out]; exact hlt
          have htn : Hid (toldL (dg k [0]) (p.sibs.take (j + 1)) = toldL (dg k [0]) (p.sibs.take j) ++ (if sibOf k y = dg k [0] then [] else sibOf k y)) := by
            have := take_next (dg k [0]) p.sibs j hjs
            rw [hSj.out] at this
            exact this
          have hmn : Hid (marksTo (dg k [0]) p.sibs (j + 1) = if sibOf k y = dg k [0] then marksTo (dg k [0]) p.sibs j else (marksTo (dg k [0]) p.sibs j).set (j / 8) (orBit ((marksTo (dg k [0]) p.sibs j).getD (j / 8) 0) (j % 8))) := by
            show _ = _
            rw [marksTo, hSj.out]
          have hml : (marksTo (dg k [0]) p.sibs j).length = nb := by rw [marksTo_length, HSl.out, Hnb.out]
          have htl : (toldL (dg k [0]) (p.sibs.take j)).length ≤ 1000 := told_len _ _ k j (by rw [HS.out]; intro x hx; obtain ⟨y', _, rfl⟩ := List.mem_map.1 hx; exact sibOf_length k _ hk2) (by omega) (by omega)
          clear hjs
          have Hml : Hid ((marksTo (dg k [0]) p.sibs j).length = nb) := hml
          clear hml
          generalize marksTo (dg k [0]) p.sibs j = ML at *
          generalize toldL (dg k [0]) (p.sibs.take j) = TL at *
          generalize sibOf k y = Z at *
          by_cases hZ : Z = dg k [0]
          · have hzq : (Z == dg k [0]) = true := by rw [beq_iff_eq]; exact hZ
            have htn' := htn.out
            have hmn' := hmn.out
            rw [if_pos hZ, List.append_nil] at htn'
            rw [if_pos hZ] at hmn'
            have Ht : Hid (toldL (dg k [0]) (p.sibs.take (j + 1)) = TL) := htn'
            have Hmm : Hid (marksTo (dg k [0]) p.sibs (j + 1) = ML) := hmn'
            clear htn' hmn' htn hmn hZ
            go_wp2
            go_roundg (n - (j + 1))
            case measure => omega
            case rel =>
              go_light
              exact ⟨j + 1, by omega, by go_num, by rw [Ht.out], D1.out, D2.out, by rw [Hmm.out]; exact D3.out⟩
          · have hzq : (Z == dg k [0]) = false := by rw [beq_eq_false_iff_ne]; exact hZ
            have htn' := htn.out
            have hmn' := hmn.out
            rw [if_neg hZ] at htn'
            rw [if_neg hZ] at hmn'
            have Ht : Hid (toldL (dg k [0]) (p.sibs.take (j + 1)) = TL ++ Z) := htn'
            have Hmm : Hid (marksTo (dg k [0]) p.sibs (j + 1) = ML.set (j / 8) (orBit (ML.getD (j / 8) 0) (j % 8))) := hmn'
            clear htn' hmn' htn hmn hZ
            have hj8 : j / 8 < nb := by have := Hnb.out; omega
            have eM : w6.cell? ⟨gm, j / 8, none⟩ = some (.int .u8 ((ML.getD (j / 8) 0).toNat : Int)) := by rw [D3.out.cell]; exact u8row_get _ _ (by rw [Hml.out]; exact hj8)
            have fM : w6.frozen? ⟨gm, j / 8, none⟩ = false := D3.out.frozen _
            have hor : bits .or .u8 ((ML.getD (j / 8) 0).toNat : Int) (128 / 2 ^ (j % 8)) = ((orBit (ML.getD (j / 8) 0) (j % 8)).toNat : Int) := or_byte _ _ (Nat.mod_lt _ (by omega))
            have hx256 := (ML.getD (j / 8) 0).toNat_lt
            have hset : Hid (∀ V : Int, V = ((orBit (ML.getD (j / 8) 0) (j % 8)).toNat : Int) → (u8row ML).setIfInBounds (j / 8) (.int .u8 V) = u8row (ML.set (j / 8) (orBit (ML.getD (j / 8) 0) (j % 8)))) := fun V hV => by rw [hV]; exact u8row_set _ _ _
            generalize ML.getD (j / 8) 0 = x8 at *
            have i3 : (j : Int) / 8 < (nb : Int) := by omega
            have i5 : (0 : Int) ≤ (j : Int) / 8 := by omega
            go_wp2
            refine Tail.tail_drew 13 (by kernel_rfl) (by kernel_rfl) ?_
            simp only [List.take_succ_cons, List.take_zero, List.drop_succ_cons, List.drop_zero]
            repeat (any_goals (first | go_big_quiet_step ((fail)) | quiet_step ((fail))))
            refine wpQuiet_nil ?_
            intro _ hw'
            obtain ⟨nq, rfl⟩ := hw'
            go_wp2
            go_roundg (n - (j + 1))
            case measure => omega
            case rel =>
              go_light
              refine ⟨j + 1, by omega, by go_num, ?_, (below_drewN D1.out nq).setCell (by simp only; omega) _, (D2.out.drewN nq).set_other _ _ (by simp only; omega), ?_⟩
              · rw [Ht.out]
                refine congrArg Value.string (ByteArray.ext ?_)
                simp [ByteArray.data_append]
              · rw [Hmm.out, ← hset.out _ rfl]
                exact (D3.out.drewN nq).set_same _ _
        · obtain rfl : j = n := by omega
          clear e1
          have htake : Hid (toldL (dg k [0]) (p.sibs.take j) = toldL (dg k [0]) p.sibs) := by show _ = _; rw [List.take_of_length_le (by rw [HSl.out]; exact Nat.le_refl _)]
          rw [htake.out]
          have htl : (toldL (dg k [0]) p.sibs).length ≤ 1000 := by
            have := told_len (dg k [0]) p.sibs k j (by rw [HS.out]; intro x hx; obtain ⟨y', _, rfl⟩ := List.mem_map.1 hx; exact sibOf_length k _ hk2) (by omega) (by omega)
            rw [htake.out] at this
            exact this
          clear htake
          go_wp2
          go_loopg [13, 20] j (fun q x i wr => ∃ t : Nat, t + q = j ∧ i = .int .i64 ((j : Int) - 1 - (t : Int)) ∧ x = .string ⟨(dg k (p.up k I t)).toArray⟩ ∧ Below w.heap.size w wr ∧ Blk wr w.heap.size 33 (builtCells kd (.slice o xs.length cap) val oth) ∧ Blk wr gm 5 (u8row (marksTo (dg k [0]) p.sibs j)))
          case atStart => exact ⟨0, by omega, by go_num, by rw [HE0.out], C1.out, C2.out, C3.out⟩
          case round =>
            obtain ⟨u, hu, rfl, rfl, c1, c2, c3⟩ := hrel
            clear C1 C2 C3
            have C1 : Hid (Below w.heap.size w wr) := c1
            have C2 : Hid (Blk wr w.heap.size 33 (builtCells kd (.slice o xs.length cap) val oth)) := c2
            have C3 : Hid (Blk wr gm 5 (u8row (marksTo (dg k [0]) p.sibs j))) := c3
            clear c1 c2 c3
            by_cases hlt2 : u < j
            · obtain ⟨t, ht⟩ : ∃ t : Nat, t = j - 1 - u := ⟨_, rfl⟩
              have hti : (j : Int) - 1 - (u : Int) = (t : Int) := by omega
              rw [hti]
              have Ht : Hid (t = j - 1 - u) := ht
              have htl' : t < j := by omega
              have Hti : Hid ((t : Int) - 1 = (j : Int) - 1 - ((u + 1 : Nat) : Int)) := by show _ = _; omega
              clear ht hti
              obtain ⟨b, off, rfl, hcap, hbw, hcell⟩ : ∃ b off, o = some ⟨b, off, none⟩ ∧ xs.length ≤ cap ∧ b < w.heap.size ∧ ∀ i, i < xs.length → w.cell? ⟨b, off + i, none⟩ = some (.int .i64 (xs.getD i 0)) := by
                rcases HX3.out with h | h
                · rw [h] at hnx; simp at hnx; omega
                · exact h
              have e1 : wr.cell? ⟨w.heap.size, 1, none⟩ = some (.slice (some ⟨b, off, none⟩) xs.length cap) := (C2.out.cell 1).trans rfl
              have eX : wr.cell? ⟨b, off + t, none⟩ = some (.int .i64 (xs.getD t 0)) := by rw [C1.out.cell (p := ⟨b, off + t, none⟩) hbw]; exact hcell t (by omega)
              have hxm : xs.getD t 0 ∈ xs := by rw [List.getD_eq_getElem?_getD, List.getElem?_eq_getElem (by omega)]; exact List.getElem_mem _
              obtain ⟨y1, y2⟩ := HX1.out _ hxm
              have hSj : Hid (p.sibs.getD t [] = sibOf k (xs.getD t 0)) := by
                show _ = _
                rw [HS.out, List.getD_eq_getElem?_getD, List.getElem?_map, List.getElem?_take, if_pos (by omega), List.getD_eq_getElem?_getD, List.getElem?_eq_getElem (by omega)]
                rfl
              have hsl : (sibOf k (xs.getD t 0)).length = k := sibOf_length k _ hk2
              have U0 : Hid (bitN I t = 0 → p.up k I (u + 1) = 2 :: (dg k (p.up k I u) ++ sibOf k (xs.getD t 0))) := fun h => by
                have e : p.sibs.length - 1 - u = t := by rw [HSl.out]; exact Ht.out.symm
                rw [PW.up, e, if_pos h, hSj.out]
              have U1 : Hid (bitN I t = 1 → p.up k I (u + 1) = 2 :: (sibOf k (xs.getD t 0) ++ dg k (p.up k I u))) := fun h => by
                have e : p.sibs.length - 1 - u = t := by rw [HSl.out]; exact Ht.out.symm
                rw [PW.up, e, if_neg (by omega), hSj.out]
              have hel : (dg k (p.up k I u)).length = k := dg_length k _ hk2
              clear hxm hcell
              generalize xs.getD t 0 = y at *
              have i1 : (t : Int) < (xs.length : Int) := by omega
              go_wp2_with fail
              refine (sibling_any k y wr hk1 hk2 y1 y2 (HT.out.below C1.out (Nat.le_refl _))).mono ?_
              rintro e w6 ⟨rfl, hb6⟩
              have D1 := below_then' C1.out hb6 C1.out.size
              have D2 : Hid (Blk w6 w.heap.size 33 (builtCells kd (.slice (some ⟨b, off, none⟩) xs.length cap) val oth)) := C2.out.below hb6 C2.out.lt
              have D3 : Hid (Blk w6 gm 5 (u8row (marksTo (dg k [0]) p.sibs j))) := C3.out.below hb6 C3.out.lt
              clear hb6 C1 C2 C3 e1 eX
              generalize sibOf k y = Z at *
              generalize dg k (p.up k I u) = E at *
              have hI32 : (⟨I.toArray⟩ : ByteArray).size = 32 := hIl
              go_wp2_with fail
              refine (kbit_any ⟨I.toArray⟩ t w6 (by rw [hI32]; omega) (by omega) (by omega)).mono ?_
              rw [show (⟨I.toArray⟩ : ByteArray).data.toList = I from rfl]
              rintro e w7 ⟨rfl, hw7⟩
              obtain rfl : w6 = w7 := hw7.symm
              clear hw7
              have hbn := bitN_lt I t
              generalize bitN I t = bt at *
              have HTb : Hid (Tabs w6) := HT.out.below D1.out (Nat.le_refl _)
              have sE : (⟨E.toArray⟩ : ByteArray).size = k := hel
              have sZ : (⟨Z.toArray⟩ : ByteArray).size = k := hsl
              rcases hbn with rfl | rfl
              · have hap : Hid ((⟨#[2]⟩ : ByteArray) ++ ⟨E.toArray⟩ ++ ⟨Z.toArray⟩ = ⟨(p.up k I (u + 1)).toArray⟩) := by
                  rw [U0.out rfl]
                  apply ByteArray.ext
                  apply Array.toList_inj.1
                  simp [ByteArray.data_append]
                have hul : (p.up k I (u + 1)).length ≤ 65 := up_length k I p hk2 hIl HOk.out _ (by rw [HSl.out]; omega)
                go_wp2_with fail
                rw [hap.out]
                refine (sealed_any k ⟨(p.up k I (u + 1)).toArray⟩ w6 hk1 hk2 (by show (p.up k I (u + 1)).length ≤ _; omega) HTb.out).mono ?_
                rintro e w8 ⟨rfl, hb8⟩
                have F1 := below_then' D1.out hb8 D1.out.size
                have F2 : Hid (Blk w8 w.heap.size 33 (builtCells kd (.slice (some ⟨b, off, none⟩) xs.length cap) val oth)) := D2.out.below hb8 D2.out.lt
                have F3 : Hid (Blk w8 gm 5 (u8row (marksTo (dg k [0]) p.sibs j))) := D3.out.below hb8 D3.out.lt
                clear hb8 hap
                go_wp2
                go_roundg (j - (u + 1))
                case measure => omega
                case rel =>
                  go_light
                  exact ⟨u + 1, by omega, by rw [← Hti.out], rfl, F1.out, F2.out, F3.out⟩
              · have hap : Hid ((⟨#[2]⟩ : ByteArray) ++ ⟨Z.toArray⟩ ++ ⟨E.toArray⟩ = ⟨(p.up k I (u + 1)).toArray⟩) := by
                  rw [U1.out rfl]
                  apply ByteArray.ext
                  apply Array.toList_inj.1
                  simp [ByteArray.data_append]
                have hul : (p.up k I (u + 1)).length ≤ 65 := up_length k I p hk2 hIl HOk.out _ (by rw [HSl.out]; omega)
                go_wp2_with fail
                rw [hap.out]
                refine (sealed_any k ⟨(p.up k I (u + 1)).toArray⟩ w6 hk1 hk2 (by show (p.up k I (u + 1)).length ≤ _; omega) HTb.out).mono ?_
                rintro e w8 ⟨rfl, hb8⟩
                have F1 := below_then' D1.out hb8 D1.out.size
                have F2 : Hid (Blk w8 w.heap.size 33 (builtCells kd (.slice (some ⟨b, off, none⟩) xs.length cap) val oth)) := D2.out.below hb8 D2.out.lt
                have F3 : Hid (Blk w8 gm 5 (u8row (marksTo (dg k [0]) p.sibs j))) := D3.out.below hb8 D3.out.lt
                clear hb8 hap
                go_wp2
                go_roundg (j - (u + 1))
                case measure => omega
                case rel =>
                  go_light
                  exact ⟨u + 1, by omega, by rw [← Hti.out], rfl, F1.out, F2.out, F3.out⟩
            · obtain rfl : u = j := by omega
              have hst1 : (convert 42 9 (.slice (some ⟨wr.heap.size, 0, none⟩) 3 3)).run Tryd.prog (wr.alloc (.cells #[.int .u8 0, .int .u8 0, .int .u8 (u : Int)] 5)) = .ok (.string ⟨#[UInt8.ofNat 0, 0, UInt8.ofNat u]⟩) (wr.alloc (.cells #[.int .u8 0, .int .u8 0, .int .u8 (u : Int)] 5)) := by
                have hB : Blk (wr.alloc (.cells #[.int .u8 0, .int .u8 0, .int .u8 (u : Int)] 5)) wr.heap.size 5 (u8row [UInt8.ofNat 0, 0, UInt8.ofNat u]) := by
                  have h := Blk.new wr 5 #[.int .u8 0, .int .u8 0, .int .u8 (u : Int)]
                  rw [show u8row [UInt8.ofNat 0, 0, UInt8.ofNat u] = #[.int .u8 0, .int .u8 0, .int .u8 (u : Int)] by
                    show #[Value.int .u8 ((UInt8.ofNat 0).toNat : Int), .int .u8 ((0 : UInt8).toNat : Int), .int .u8 ((UInt8.ofNat u).toNat : Int)] = _
                    rw [show ((UInt8.ofNat u).toNat : Int) = (u : Int) by rw [UInt8.toNat_ofNat']; omega]
                    rfl]
                  exact h
                exact str_row hB 3
              have hst2 : (convert 42 9 (.slice (some ⟨gm, 0, none⟩) nb nb)).run Tryd.prog (wr.alloc (.cells #[.int .u8 0, .int .u8 0, .int .u8 (u : Int)] 5)) = .ok (.string ⟨(marksTo (dg k [0]) p.sibs u).toArray⟩) (wr.alloc (.cells #[.int .u8 0, .int .u8 0, .int .u8 (u : Int)] 5)) := by
                have h := str_row (C3.out.alloc (.cells #[.int .u8 0, .int .u8 0, .int .u8 (u : Int)] 5)) nb
                rw [show (marksTo (dg k [0]) p.sibs u).length = nb by rw [marksTo_length, HSl.out, Hnb.out]] at h
                exact h
              have Bf : Hid (Below w.heap.size w (wr.alloc (.cells #[.int .u8 0, .int .u8 0, .int .u8 (u : Int)] 5))) := C1.out.alloc C1.out.size _
              have hml : (⟨(marksTo (dg k [0]) p.sibs u).toArray⟩ : ByteArray).size ≤ 3 := by show (marksTo (dg k [0]) p.sibs u).length ≤ 3; rw [marksTo_length, HSl.out]; have := Hnb.out; omega
              have htb : (⟨(toldL (dg k [0]) p.sibs).toArray⟩ : ByteArray).size ≤ 1000 := htl
              have hfin : Hid ((⟨#[UInt8.ofNat 0, 0, UInt8.ofNat u]⟩ : ByteArray) ++ ⟨(marksTo (dg k [0]) p.sibs u).toArray⟩ ++ ⟨(toldL (dg k [0]) p.sibs).toArray⟩ ++ ⟨#[]⟩ = ⟨(encode k p).toArray⟩) := by
                have h1 : p.kind = 0 := by rw [Hp.out]
                apply ByteArray.ext
                apply Array.toList_inj.1
                rw [encode, h1, HSl.out, HR.out]
                simp [ByteArray.data_append]
              have h3s : (⟨#[UInt8.ofNat 0, 0, UInt8.ofNat u]⟩ : ByteArray).size = 3 := rfl
              generalize (⟨#[UInt8.ofNat 0, 0, UInt8.ofNat u]⟩ : ByteArray) = A1 at *
              generalize (⟨(marksTo (dg k [0]) p.sibs u).toArray⟩ : ByteArray) = A2 at *
              generalize (⟨(toldL (dg k [0]) p.sibs).toArray⟩ : ByteArray) = A3 at *
              go_wp2
              go_ret2
              refine ⟨Bf.out, ?_⟩
              rw [HPW.out, HI.out, ← hfin.out, show p.root k I = dg k (p.up k I u) by rw [PW.root, PW.textAt, HSl.out, Nat.sub_zero]]
              rfl
    · obtain ⟨p, hp⟩ : ∃ p : PW, p = ⟨1, (xs.take 20).map (sibOf k), valOf val, [], []⟩ := ⟨_, rfl⟩
      have Hp : Hid (p = ⟨1, (xs.take 20).map (sibOf k), valOf val, [], []⟩) := hp
      have HPW : Hid (builtPW k (idxOf num) (pickZ kd 3).toNat (xs.take 20) val oth = p) := by show _ = _; rw [HM.out, hp]; rfl
      clear hp
      have HOk : Hid (p.Ok k) := by
        show PW.Ok k p
        rw [Hp.out]
        exact ⟨by simp; omega, fun x hx => by obtain ⟨y', _, rfl⟩ := List.mem_map.1 hx; exact sibOf_length k _ hk2, by have := valOf_length val; simp only; omega, by simp, by simp, by simp⟩
      have e2 : w2.cell? ⟨w.heap.size, 2, none⟩ = some (.int .i64 val) := (k2.out.cell 2).trans rfl
      go_wp2_with fail
      refine (valueOf_any val w2 a3 a4).mono ?_
      rintro e w4 ⟨rfl, hb⟩
      have b4 := below_then' b2.out hb b2.out.size
      have k4 : Hid (Blk w4 w.heap.size 33 (builtCells kd (.slice o xs.length cap) val oth)) := k2.out.below hb k2.out.lt
      clear hb b2 k2 e2
      have hVl := valOf_length val
      have HR : Hid (restOf p = valOf val) := by show _ = _; rw [Hp.out]; rfl
      have HEnd : Hid (p.endText k I = 1 :: (I ++ dg k (4 :: valOf val))) := by show _ = _; rw [Hp.out]; rfl
      generalize valOf val = V at *
      have hap4 : Hid ((⟨#[4]⟩ : ByteArray) ++ ⟨V.toArray⟩ = ⟨(4 :: V).toArray⟩) := by
        apply ByteArray.ext
        apply Array.toList_inj.1
        simp [ByteArray.data_append]
      have sV : (⟨V.toArray⟩ : ByteArray).size ≤ 4 := hVl
      have sI : (⟨I.toArray⟩ : ByteArray).size = 32 := hIl
      go_wp2_with fail
      rw [hap4.out]
      refine (sealed_any k ⟨(4 :: V).toArray⟩ w4 hk1 hk2 (by show (4 :: V).length ≤ _; simp; omega) (HT.out.below b4.out (Nat.le_refl _))).mono ?_
      rintro e w5 ⟨rfl, hb⟩
      rw [show dg k (⟨(4 :: V).toArray⟩ : ByteArray).data.toList = dg k (4 :: V) from rfl]
      have b5 := below_then' b4.out hb b4.out.size
      have k5 : Hid (Blk w5 w.heap.size 33 (builtCells kd (.slice o xs.length cap) val oth)) := k4.out.below hb k4.out.lt
      clear hb b4 k4 hap4
      have hYl : (dg k (4 :: V)).length = k := dg_length k _ hk2
      generalize dg k (4 :: V) = Y at *
      have sY : (⟨Y.toArray⟩ : ByteArray).size = k := hYl
      have hap1 : Hid ((⟨#[1]⟩ : ByteArray) ++ ⟨I.toArray⟩ ++ ⟨Y.toArray⟩ = ⟨(p.up k I 0).toArray⟩) := by
        rw [show p.up k I 0 = p.endText k I from rfl, HEnd.out]
        apply ByteArray.ext
        apply Array.toList_inj.1
        simp [ByteArray.data_append]
      have hul : (p.up k I 0).length ≤ 65 := up_length k I p hk2 hIl HOk.out 0 (by omega)
      go_wp2_with fail
      rw [hap1.out]
      refine (sealed_any k ⟨(p.up k I 0).toArray⟩ w5 hk1 hk2 (by show (p.up k I 0).length ≤ _; omega) (HT.out.below b5.out (Nat.le_refl _))).mono ?_
      rintro e w7 ⟨rfl, hb⟩
      rw [show dg k (⟨(p.up k I 0).toArray⟩ : ByteArray).data.toList = dg k (p.up k I 0) from rfl]
      have b7 := below_then' b5.out hb b5.out.size
      have k7 : Hid (Blk w7 w.heap.size 33 (builtCells kd (.slice o xs.length cap) val oth)) := k5.out.below hb k5.out.lt
      clear hb b5 k5 hap1 hul
      obtain ⟨E0, hE0⟩ : ∃ E0, dg k (p.up k I 0) = E0 := ⟨_, rfl⟩
      rw [hE0]
      have HE0 : Hid (E0 = dg k (p.up k I 0)) := hE0.symm
      clear hE0
      have HS : Hid (p.sibs = (xs.take 20).map (sibOf k)) := by show _ = _; rw [Hp.out]
      have hSl : p.sibs.length = n := by rw [HS.out, List.length_map]; exact Hn.out.symm
      have HSl : Hid (p.sibs.length = n) := hSl
      clear hSl
      obtain ⟨nb, hnb⟩ : ∃ nb : Nat, nb = (n + 7) / 8 := ⟨_, rfl⟩
      have hnbi : ((n : Int) + 7) / 8 = (nb : Int) := by omega
      have Hnb : Hid (nb = (n + 7) / 8) := hnb
      have hnb3 : nb ≤ 3 := by omega
      clear hnb
      have hmk := make_bytes nb (by omega)
      have m1 : Hid (Below w.heap.size w (w7.alloc (.cells (zrow nb) 5))) := b7.out.alloc b7.out.size _
      have m2 : Hid (Blk (w7.alloc (.cells (zrow nb) 5)) w.heap.size 33 (builtCells kd (.slice o xs.length cap) val oth)) := k7.out.alloc _
      have m3 : Hid (Blk (w7.alloc (.cells (zrow nb) 5)) w7.heap.size 5 (u8row (marksTo (dg k [0]) p.sibs 0))) := by
        have := Blk.new w7 5 (zrow nb)
        rw [show marksTo (dg k [0]) p.sibs 0 = List.replicate nb 0 by rw [marksTo, HSl.out, Hnb.out]]
        exact this
      have hgm : Hid (w.heap.size < w7.heap.size) := k7.out.lt
      go_wp2
      clear hmk
      rw [hnbi]
      clear hnbi
      generalize w7.alloc (.cells (zrow nb) 5) = wm at *
      generalize w7.heap.size = gm at *
      go_loopg [17, 18] n (fun q x i wr => ∃ j : Nat, j + q = n ∧ i = .int .i64 (j : Int) ∧ x = .string ⟨(toldL (dg k [0]) (p.sibs.take j)).toArray⟩ ∧ Below w.heap.size w wr ∧ Blk wr w.heap.size 33 (builtCells kd (.slice o xs.length cap) val oth) ∧ Blk wr gm 5 (u8row (marksTo (dg k [0]) p.sibs j)))
      case atStart => exact ⟨0, by omega, rfl, rfl, m1.out, m2.out, m3.out⟩
      case round =>
        obtain ⟨j, hj, rfl, rfl, c1, c2, c3⟩ := hrel
        clear m1 m2 m3
        have C1 : Hid (Below w.heap.size w wr) := c1
        have C2 : Hid (Blk wr w.heap.size 33 (builtCells kd (.slice o xs.length cap) val oth)) := c2
        have C3 : Hid (Blk wr gm 5 (u8row (marksTo (dg k [0]) p.sibs j))) := c3
        clear c1 c2 c3
        have e1 : wr.cell? ⟨w.heap.size, 1, none⟩ = some (.slice o xs.length cap) := (C2.out.cell 1).trans rfl
        have hgmw := hgm.out
        by_cases hlt : j < n
        · obtain ⟨b, off, rfl, hcap, hbw, hcell⟩ : ∃ b off, o = some ⟨b, off, none⟩ ∧ xs.length ≤ cap ∧ b < w.heap.size ∧ ∀ i, i < xs.length → w.cell? ⟨b, off + i, none⟩ = some (.int .i64 (xs.getD i 0)) := by
            rcases HX3.out with h | h
            · rw [h] at hnx; simp at hnx; omega
            · exact h
          have eX : wr.cell? ⟨b, off + j, none⟩ = some (.int .i64 (xs.getD j 0)) := by rw [C1.out.cell (p := ⟨b, off + j, none⟩) hbw]; exact hcell j (by omega)
          have hxm : xs.getD j 0 ∈ xs := by rw [List.getD_eq_getElem?_getD, List.getElem?_eq_getElem (by omega)]; exact List.getElem_mem _
          obtain ⟨y1, y2⟩ := HX1.out _ hxm
          have hSj : Hid (p.sibs.getD j [] = sibOf k (xs.getD j 0)) := by
            show _ = _
            rw [HS.out, List.getD_eq_getElem?_getD, List.getElem?_map, List.getElem?_take, if_pos (by omega), List.getD_eq_getElem?_getD, List.getElem?_eq_getElem (by omega)]
            rfl
          have hsl : (sibOf k (xs.getD j 0)).length = k := sibOf_length k _ hk2
          clear hxm hcell
          generalize xs.getD j 0 = y at *
          have i1 : (j : Int) < (xs.length : Int) := by omega
          go_wp2_with fail
          refine (sibling_any k y wr hk1 hk2 y1 y2 (HT.out.below C1.out (Nat.le_refl _))).mono ?_
          rintro e w6 ⟨rfl, hb6⟩
          have D1 := below_then' C1.out hb6 C1.out.size
          have D2 : Hid (Blk w6 w.heap.size 33 (builtCells kd (.slice (some ⟨b, off, none⟩) xs.length cap) val oth)) := C2.out.below hb6 C2.out.lt
          have D3 : Hid (Blk w6 gm 5 (u8row (marksTo (dg k [0]) p.sibs j))) := C3.out.below hb6 C3.out.lt
          clear hb6 C1 C2 C3 e1 eX
          have hjs : j < p.sibs.length := by rw [HSl.out]; exact hlt
          have htn : Hid (toldL (dg k [0]) (p.sibs.take (j + 1)) = toldL (dg k [0]) (p.sibs.take j) ++ (if sibOf k y = dg k [0] then [] else sibOf k y)) := by
            have := take_next (dg k [0]) p.sibs j hjs
            rw [hSj.out] at this
            exact this
          have hmn : Hid (marksTo (dg k [0]) p.sibs (j + 1) = if sibOf k y = dg k [0] then marksTo (dg k [0]) p.sibs j else (marksTo (dg k [0]) p.sibs j).set (j / 8) (orBit ((marksTo (dg k [0]) p.sibs j).getD (j / 8) 0) (j % 8))) := by
            show _ = _
            rw [marksTo, hSj.out]
          have hml : (marksTo (dg k [0]) p.sibs j).length = nb := by rw [marksTo_length, HSl.out, Hnb.out]
          have htl : (toldL (dg k [0]) (p.sibs.take j)).length ≤ 1000 := told_len _ _ k j (by rw [HS.out]; intro x hx; obtain ⟨y', _, rfl⟩ := List.mem_map.1 hx; exact sibOf_length k _ hk2) (by omega) (by omega)
          clear hjs
          have Hml : Hid ((marksTo (dg k [0]) p.sibs j).length = nb) := hml
          clear hml
          generalize marksTo (dg k [0]) p.sibs j = ML at *
          generalize toldL (dg k [0]) (p.sibs.take j) = TL at *
          generalize sibOf k y = Z at *
          by_cases hZ : Z = dg k [0]
          · have hzq : (Z == dg k [0]) = true := by rw [beq_iff_eq]; exact hZ
            have htn' := htn.out
            have hmn' := hmn.out
            rw [if_pos hZ, List.append_nil] at htn'
            rw [if_pos hZ] at hmn'
            have Ht : Hid (toldL (dg k [0]) (p.sibs.take (j + 1)) = TL) := htn'
            have Hmm : Hid (marksTo (dg k [0]) p.sibs (j + 1) = ML) := hmn'
            clear htn' hmn' htn hmn hZ
            go_wp2
            go_roundg (n - (j + 1))
            case measure => omega
            case rel =>
              go_light
              exact ⟨j + 1, by omega, by go_num, by rw [Ht.out], D1.out, D2.out, by rw [Hmm.out]; exact D3.out⟩
          · have hzq : (Z == dg k [0]) = false := by rw [beq_eq_false_iff_ne]; exact hZ
            have htn' := htn.out
            have hmn' := hmn.out
            rw [if_neg hZ] at htn'
            rw [if_neg hZ] at hmn'
            have Ht : Hid (toldL (dg k [0]) (p.sibs.take (j + 1)) = TL ++ Z) := htn'
            have Hmm : Hid (marksTo (dg k [0]) p.sibs (j + 1) = ML.set (j / 8) (orBit (ML.getD (j / 8) 0) (j % 8))) := hmn'
            clear htn' hmn' htn hmn hZ
            have hj8 : j / 8 < nb := by have := Hnb.out; omega
            have eM : w6.cell? ⟨gm, j / 8, none⟩ = some (.int .u8 ((ML.getD (j / 8) 0).toNat : Int)) := by rw [D3.out.cell]; exact u8row_get _ _ (by rw [Hml.out]; exact hj8)
            have fM : w6.frozen? ⟨gm, j / 8, none⟩ = false := D3.out.frozen _
            have hor : bits .or .u8 ((ML.getD (j / 8) 0).toNat : Int) (128 / 2 ^ (j % 8)) = ((orBit (ML.getD (j / 8) 0) (j % 8)).toNat : Int) := or_byte _ _ (Nat.mod_lt _ (by omega))
            have hx256 := (ML.getD (j / 8) 0).toNat_lt
            have hset : Hid (∀ V : Int, V = ((orBit (ML.getD (j / 8) 0) (j % 8)).toNat : Int) → (u8row ML).setIfInBounds (j / 8) (.int .u8 V) = u8row (ML.set (j / 8) (orBit (ML.getD (j / 8) 0) (j % 8)))) := fun V hV => by rw [hV]; exact u8row_set _ _ _
            generalize ML.getD (j / 8) 0 = x8 at *
            have i3 : (j : Int) / 8 < (nb : Int) := by omega
            have i5 : (0 : Int) ≤ (j : Int) / 8 := by omega
            go_wp2
            refine Tail.tail_drew 13 (by kernel_rfl) (by kernel_rfl) ?_
            simp only [List.take_succ_cons, List.take_zero, List.drop_succ_cons, List.drop_zero]
            repeat (any_goals (first | go_big_quiet_step ((fail)) | quiet_step ((fail))))
            refine wpQuiet_nil ?_
            intro _ hw'
            obtain ⟨nq, rfl⟩ := hw'
            go_wp2
            go_roundg (n - (j + 1))
            case measure => omega
            case rel =>
              go_light
              refine ⟨j + 1, by omega, by go_num, ?_, (below_drewN D1.out nq).setCell (by simp only; omega) _, (D2.out.drewN nq).set_other _ _ (by simp only; omega), ?_⟩
              · rw [Ht.out]
                refine congrArg Value.string (ByteArray.ext ?_)
                simp [ByteArray.data_append]
              · rw [Hmm.out, ← hset.out _ rfl]
                exact (D3.out.drewN nq).set_same _ _
        · obtain rfl : j = n := by omega
          clear e1
          have htake : Hid (toldL (dg k [0]) (p.sibs.take j) = toldL (dg k [0]) p.sibs) := by show _ = _; rw [List.take_of_length_le (by rw [HSl.out]; exact Nat.le_refl _)]
          rw [htake.out]
          have htl : (toldL (dg k [0]) p.sibs).length ≤ 1000 := by
            have := told_len (dg k [0]) p.sibs k j (by rw [HS.out]; intro x hx; obtain ⟨y', _, rfl⟩ := List.mem_map.1 hx; exact sibOf_length k _ hk2) (by omega) (by omega)
            rw [htake.out] at this
            exact this
          clear htake
          go_wp2
          go_loopg [13, 20] j (fun q x i wr => ∃ t : Nat, t + q = j ∧ i = .int .i64 ((j : Int) - 1 - (t : Int)) ∧ x = .string ⟨(dg k (p.up k I t)).toArray⟩ ∧ Below w.heap.size w wr ∧ Blk wr w.heap.size 33 (builtCells kd (.slice o xs.length cap) val oth) ∧ Blk wr gm 5 (u8row (marksTo (dg k [0]) p.sibs j)))
          case atStart => exact ⟨0, by omega, by go_num, by rw [HE0.out], C1.out, C2.out, C3.out⟩
          case round =>
            obtain ⟨u, hu, rfl, rfl, c1, c2, c3⟩ := hrel
            clear C1 C2 C3
            have C1 : Hid (Below w.heap.size w wr) := c1
            have C2 : Hid (Blk wr w.heap.size 33 (builtCells kd (.slice o xs.length cap) val oth)) := c2
            have C3 : Hid (Blk wr gm 5 (u8row (marksTo (dg k [0]) p.sibs j))) := c3
            clear c1 c2 c3
            by_cases hlt2 : u < j
            · obtain ⟨t, ht⟩ : ∃ t : Nat, t = j - 1 - u := ⟨_, rfl⟩
              have hti : (j : Int) - 1 - (u : Int) = (t : Int) := by omega
              rw [hti]
              have Ht : Hid (t = j - 1 - u) := ht
              have htl' : t < j := by omega
              have Hti : Hid ((t : Int) - 1 = (j : Int) - 1 - ((u + 1 : Nat) : Int)) := by show _ = _; omega
              clear ht hti
              obtain ⟨b, off, rfl, hcap, hbw, hcell⟩ : ∃ b off, o = some ⟨b, off, none⟩ ∧ xs.length ≤ cap ∧ b < w.heap.size ∧ ∀ i, i < xs.length → w.cell? ⟨b, off + i, none⟩ = some (.int .i64 (xs.getD i 0)) := by
                rcases HX3.out with h | h
                · rw [h] at hnx; simp at hnx; omega
                · exact h
              have e1 : wr.cell? ⟨w.heap.size, 1, none⟩ = some (.slice (some ⟨b, off, none⟩) xs.length cap) := (C2.out.cell 1).trans rfl
              have eX : wr.cell? ⟨b, off + t, none⟩ = some (.int .i64 (xs.getD t 0)) := by rw [C1.out.cell (p := ⟨b, off + t, none⟩) hbw]; exact hcell t (by omega)
              have hxm : xs.getD t 0 ∈ xs := by rw [List.getD_eq_getElem?_getD, List.getElem?_eq_getElem (by omega)]; exact List.getElem_mem _
              obtain ⟨y1, y2⟩ := HX1.out _ hxm
              have hSj : Hid (p.sibs.getD t [] = sibOf k (xs.getD t 0)) := by
                show _ = _
                rw [HS.out, List.getD_eq_getElem?_getD, List.getElem?_map, List.getElem?_take, if_pos (by omega), List.getD_eq_getElem?_getD, List.getElem?_eq_getElem (by omega)]
                rfl
              have hsl : (sibOf k (xs.getD t 0)).length = k := sibOf_length k _ hk2
              have U0 : Hid (bitN I t = 0 → p.up k I (u + 1) = 2 :: (dg k (p.up k I u) ++ sibOf k (xs.getD t 0))) := fun h => by
                have e : p.sibs.length - 1 - u = t := by rw [HSl.out]; exact Ht.out.symm
                rw [PW.up, e, if_pos h, hSj.out]
              have U1 : Hid (bitN I t = 1 → p.up k I (u + 1) = 2 :: (sibOf k (xs.getD t 0) ++ dg k (p.up k I u))) := fun h => by
                have e : p.sibs.length - 1 - u = t := by rw [HSl.out]; exact Ht.out.symm
                rw [PW.up, e, if_neg (by omega), hSj.out]
              have hel : (dg k (p.up k I u)).length = k := dg_length k _ hk2
              clear hxm hcell
              generalize xs.getD t 0 = y at *
              have i1 : (t : Int) < (xs.length : Int) := by omega
              go_wp2_with fail
              refine (sibling_any k y wr hk1 hk2 y1 y2 (HT.out.below C1.out (Nat.le_refl _))).mono ?_
              rintro e w6 ⟨rfl, hb6⟩
              have D1 := below_then' C1.out hb6 C1.out.size
              have D2 : Hid (Blk w6 w.heap.size 33 (builtCells kd (.slice (some ⟨b, off, none⟩) xs.length cap) val oth)) := C2.out.below hb6 C2.out.lt
              have D3 : Hid (Blk w6 gm 5 (u8row (marksTo (dg k [0]) p.sibs j))) := C3.out.below hb6 C3.out.lt
              clear hb6 C1 C2 C3 e1 eX
              generalize sibOf k y = Z at *
              generalize dg k (p.up k I u) = E at *
              have hI32 : (⟨I.toArray⟩ : ByteArray).size = 32 := hIl
              go_wp2_with fail
              refine (kbit_any ⟨I.toArray⟩ t w6 (by rw [hI32]; omega) (by omega) (by omega)).mono ?_
              rw [show (⟨I.toArray⟩ : ByteArray).data.toList = I from rfl]
              rintro e w7 ⟨rfl, hw7⟩
              obtain rfl : w6 = w7 := hw7.symm
              clear hw7
              have hbn := bitN_lt I t
              generalize bitN I t = bt at *
              have HTb : Hid (Tabs w6) := HT.out.below D1.out (Nat.le_refl _)
              have sE : (⟨E.toArray⟩ : ByteArray).size = k := hel
              have sZ : (⟨Z.toArray⟩ : ByteArray).size = k := hsl
              rcases hbn with rfl | rfl
              · have hap : Hid ((⟨#[2]⟩ : ByteArray) ++ ⟨E.toArray⟩ ++ ⟨Z.toArray⟩ = ⟨(p.up k I (u + 1)).toArray⟩) := by
                  rw [U0.out rfl]
                  apply ByteArray.ext
                  apply Array.toList_inj.1
                  simp [ByteArray.data_append]
                have hul : (p.up k I (u + 1)).length ≤ 65 := up_length k I p hk2 hIl HOk.out _ (by rw [HSl.out]; omega)
                go_wp2_with fail
                rw [hap.out]
                refine (sealed_any k ⟨(p.up k I (u + 1)).toArray⟩ w6 hk1 hk2 (by show (p.up k I (u + 1)).length ≤ _; omega) HTb.out).mono ?_
                rintro e w8 ⟨rfl, hb8⟩
                have F1 := below_then' D1.out hb8 D1.out.size
                have F2 : Hid (Blk w8 w.heap.size 33 (builtCells kd (.slice (some ⟨b, off, none⟩) xs.length cap) val oth)) := D2.out.below hb8 D2.out.lt
                have F3 : Hid (Blk w8 gm 5 (u8row (marksTo (dg k [0]) p.sibs j))) := D3.out.below hb8 D3.out.lt
                clear hb8 hap
                go_wp2
                go_roundg (j - (u + 1))
                case measure => omega
                case rel =>
                  go_light
                  exact ⟨u + 1, by omega, by rw [← Hti.out], rfl, F1.out, F2.out, F3.out⟩
              · have hap : Hid ((⟨#[2]⟩ : ByteArray) ++ ⟨Z.toArray⟩ ++ ⟨E.toArray⟩ = ⟨(p.up k I (u + 1)).toArray⟩) := by
                  rw [U1.out rfl]
                  apply ByteArray.ext
                  apply Array.toList_inj.1
                  simp [ByteArray.data_append]
                have hul : (p.up k I (u + 1)).length ≤ 65 := up_length k I p hk2 hIl HOk.out _ (by rw [HSl.out]; omega)
                go_wp2_with fail
                rw [hap.out]
                refine (sealed_any k ⟨(p.up k I (u + 1)).toArray⟩ w6 hk1 hk2 (by show (p.up k I (u + 1)).length ≤ _; omega) HTb.out).mono ?_
                rintro e w8 ⟨rfl, hb8⟩
                have F1 := below_then' D1.out hb8 D1.out.size
                have F2 : Hid (Blk w8 w.heap.size 33 (builtCells kd (.slice (some ⟨b, off, none⟩) xs.length cap) val oth)) := D2.out.below hb8 D2.out.lt
                have F3 : Hid (Blk w8 gm 5 (u8row (marksTo (dg k [0]) p.sibs j))) := D3.out.below hb8 D3.out.lt
                clear hb8 hap
                go_wp2
                go_roundg (j - (u + 1))
                case measure => omega
                case rel =>
                  go_light
                  exact ⟨u + 1, by omega, by rw [← Hti.out], rfl, F1.out, F2.out, F3.out⟩
            · obtain rfl : u = j := by omega
              have hst1 : (convert 42 9 (.slice (some ⟨wr.heap.size, 0, none⟩) 3 3)).run Tryd.prog (wr.alloc (.cells #[.int .u8 1, .int .u8 0, .int .u8 (u : Int)] 5)) = .ok (.string ⟨#[UInt8.ofNat 1, 0, UInt8.ofNat u]⟩) (wr.alloc (.cells #[.int .u8 1, .int .u8 0, .int .u8 (u : Int)] 5)) := by
                have hB : Blk (wr.alloc (.cells #[.int .u8 1, .int .u8 0, .int .u8 (u : Int)] 5)) wr.heap.size 5 (u8row [UInt8.ofNat 1, 0, UInt8.ofNat u]) := by
                  have h := Blk.new wr 5 #[.int .u8 1, .int .u8 0, .int .u8 (u : Int)]
                  rw [show u8row [UInt8.ofNat 1, 0, UInt8.ofNat u] = #[.int .u8 1, .int .u8 0, .int .u8 (u : Int)] by
                    show #[Value.int .u8 ((UInt8.ofNat 1).toNat : Int), .int .u8 ((0 : UInt8).toNat : Int), .int .u8 ((UInt8.ofNat u).toNat : Int)] = _
                    rw [show ((UInt8.ofNat u).toNat : Int) = (u : Int) by rw [UInt8.toNat_ofNat']; omega]
                    rfl]
                  exact h
                exact str_row hB 3
              have hst2 : (convert 42 9 (.slice (some ⟨gm, 0, none⟩) nb nb)).run Tryd.prog (wr.alloc (.cells #[.int .u8 1, .int .u8 0, .int .u8 (u : Int)] 5)) = .ok (.string ⟨(marksTo (dg k [0]) p.sibs u).toArray⟩) (wr.alloc (.cells #[.int .u8 1, .int .u8 0, .int .u8 (u : Int)] 5)) := by
                have h := str_row (C3.out.alloc (.cells #[.int .u8 1, .int .u8 0, .int .u8 (u : Int)] 5)) nb
                rw [show (marksTo (dg k [0]) p.sibs u).length = nb by rw [marksTo_length, HSl.out, Hnb.out]] at h
                exact h
              have Bf : Hid (Below w.heap.size w (wr.alloc (.cells #[.int .u8 1, .int .u8 0, .int .u8 (u : Int)] 5))) := C1.out.alloc C1.out.size _
              have hml : (⟨(marksTo (dg k [0]) p.sibs u).toArray⟩ : ByteArray).size ≤ 3 := by show (marksTo (dg k [0]) p.sibs u).length ≤ 3; rw [marksTo_length, HSl.out]; have := Hnb.out; omega
              have htb : (⟨(toldL (dg k [0]) p.sibs).toArray⟩ : ByteArray).size ≤ 1000 := htl
              have hfin : Hid ((⟨#[UInt8.ofNat 1, 0, UInt8.ofNat u]⟩ : ByteArray) ++ ⟨(marksTo (dg k [0]) p.sibs u).toArray⟩ ++ ⟨(toldL (dg k [0]) p.sibs).toArray⟩ ++ ⟨V.toArray⟩ = ⟨(encode k p).toArray⟩) := by
                have h1 : p.kind = 1 := by rw [Hp.out]
                apply ByteArray.ext
                apply Array.toList_inj.1
                rw [encode, h1, HSl.out, HR.out]
                simp [ByteArray.data_append]
              have h3s : (⟨#[UInt8.ofNat 1, 0, UInt8.ofNat u]⟩ : ByteArray).size = 3 := rfl
              generalize (⟨#[UInt8.ofNat 1, 0, UInt8.ofNat u]⟩ : ByteArray) = A1 at *
              generalize (⟨(marksTo (dg k [0]) p.sibs u).toArray⟩ : ByteArray) = A2 at *
              generalize (⟨(toldL (dg k [0]) p.sibs).toArray⟩ : ByteArray) = A3 at *
              go_wp2
              go_ret2
              refine ⟨Bf.out, ?_⟩
              rw [HPW.out, HI.out, ← hfin.out, show p.root k I = dg k (p.up k I u) by rw [PW.root, PW.textAt, HSl.out, Nat.sub_zero]]
              rfl
    · obtain ⟨p, hp⟩ : ∃ p : PW, p = ⟨2, (xs.take 20).map (sibOf k), [], flipAt I ((xs.take 20).length + (pickZ oth ((256 - (xs.take 20).length : Nat) : Int)).toNat), dg k (4 :: valOf val)⟩ := ⟨_, rfl⟩
      have Hp : Hid (p = ⟨2, (xs.take 20).map (sibOf k), [], flipAt I ((xs.take 20).length + (pickZ oth ((256 - (xs.take 20).length : Nat) : Int)).toNat), dg k (4 :: valOf val)⟩) := hp
      have HPW : Hid (builtPW k (idxOf num) (pickZ kd 3).toNat (xs.take 20) val oth = p) := by show _ = _; rw [HM.out, hp, HI.out]; rfl
      clear hp
      have e3 : (Lib.bytesWorld w2 5 ⟨I.toArray⟩).cell? ⟨w.heap.size, 3, none⟩ = some (.int .i64 oth) := ((k2.out.below (below_bytes w2 _ _) k2.out.lt).cell 3).trans rfl
      have hcv := fun W ss => Lib.run_convert_string_bytes (P := Tryd.prog) W 9 42 5 ss Tryd.underlying9 Tryd.underlying42 Tryd.underlying5
      have b4 : Hid (Below w.heap.size w (Lib.bytesWorld w2 5 ⟨I.toArray⟩)) := b2.out.trans ((below_bytes w2 _ _).mono b2.out.size)
      have k4 : Hid (Blk (Lib.bytesWorld w2 5 ⟨I.toArray⟩) w.heap.size 33 (builtCells kd (.slice o xs.length cap) val oth)) := k2.out.below (below_bytes w2 _ _) k2.out.lt
      have sI : (⟨I.toArray⟩ : ByteArray).size = 32 := hIl
      have o4 : Hid (Own (Lib.bytesWorld w2 5 ⟨I.toArray⟩) (w.heap.size + 1) 5 (.slice (some ⟨w2.heap.size, 0, none⟩) 32 (grownCap w2 32 0 5)) 32 (I.map fun b => .int .u8 (b.toNat : Int))) := by
        have h := own_bytes w2 (w.heap.size + 1) 5 ⟨I.toArray⟩ k2.out.lt
        rw [sI] at h
        exact h
      go_wp2_with fail
      clear hcv
      generalize Lib.bytesWorld w2 5 ⟨I.toArray⟩ = w4 at *
      generalize grownCap w2 32 0 5 = cb at *
      clear b2 k2
      generalize w2.heap.size = gb at *
      refine (pick_any oth (256 - (n : Int)) w4 a5 a6 (by omega) (by omega)).mono ?_
      rintro e w5 ⟨rfl, hw5⟩
      obtain rfl : w4 = w5 := hw5.symm
      clear hw5
      obtain ⟨t0, ht0, ht0l⟩ := pickZ_nat oth (256 - n) (by omega)
      have hcast : ((256 - n : Nat) : Int) = 256 - (n : Int) := by omega
      have HO : Hid (p.other = flipAt I (n + t0)) := by
        show _ = _
        rw [Hp.out]
        show flipAt I ((xs.take 20).length + (pickZ oth ((256 - (xs.take 20).length : Nat) : Int)).toNat) = _
        rw [← Hn.out, ht0]
        rfl
      have HDg : Hid (p.digest = dg k (4 :: valOf val)) := by show _ = _; rw [Hp.out]
      rw [hcast] at ht0
      rw [ht0]
      clear ht0 hcast
      obtain ⟨t, ht⟩ : ∃ t, n + t0 = t := ⟨_, rfl⟩
      rw [ht] at HO
      have hti : (n : Int) + (t0 : Int) = (t : Int) := by omega
      have ht256 : t < 256 := by omega
      have hnt : n ≤ t := by omega
      have Hti : Hid ((n : Int) + (t0 : Int) = (t : Int)) := hti
      clear ht hti e3
      have hOl : (flipAt I t).length = 32 := by rw [flipAt, List.length_set]; exact hIl
      have HOk : Hid (p.Ok k) := by
        show PW.Ok k p
        have h1 : p.other.length = 32 := by rw [HO.out]; exact hOl
        have h2 : p.digest.length = k := by rw [HDg.out]; exact dg_length k _ hk2
        refine ⟨?_, ?_, ?_, by omega, by omega, ?_⟩
        · rw [Hp.out]; simp; omega
        · rw [Hp.out]; exact fun x hx => by obtain ⟨y', _, rfl⟩ := List.mem_map.1 hx; exact sibOf_length k _ hk2
        · rw [Hp.out]; simp
        · rw [Hp.out]; simp
      have eM : w4.cell? ⟨gb, t / 8, none⟩ = some (.int .u8 ((I.getD (t / 8) 0).toNat : Int)) := by
        rw [o4.out.cell (t / 8) (by omega), List.getElem?_map, List.getD_eq_getElem?_getD, List.getElem?_eq_getElem (by omega)]
        rfl
      have fM : w4.frozen? ⟨gb, t / 8, none⟩ = false := o4.out.frozen _ (by omega)
      have hxo : bits .xor .u8 ((I.getD (t / 8) 0).toNat : Int) (128 / 2 ^ (t % 8)) = ((xorBit (I.getD (t / 8) 0) (t % 8)).toNat : Int) := xor_byte _ _ (Nat.mod_lt _ (by omega))
      have hFl : Hid (flipAt I t = I.set (t / 8) (xorBit (I.getD (t / 8) 0) (t % 8))) := rfl
      have hx256 := (I.getD (t / 8) 0).toNat_lt
      obtain ⟨hgb1, hgb2, hcb⟩ := o4.out.base
      generalize I.getD (t / 8) 0 = x8 at *
      have i3 : (t : Int) / 8 < 32 := by omega
      have i5 : (0 : Int) ≤ (t : Int) / 8 := by omega
      go_wp2
      rw [Hti.out]
      refine Tail.tail_drew 13 (by kernel_rfl) (by kernel_rfl) ?_
      simp only [List.take_succ_cons, List.take_zero, List.drop_succ_cons, List.drop_zero]
      repeat (any_goals (first | go_big_quiet_step ((fail)) | quiet_step ((fail))))
      refine wpQuiet_nil ?_
      intro _ hw'
      obtain ⟨nq, rfl⟩ := hw'
      go_upto_region 17 with (fail)
      have b5 : Hid (Below w.heap.size w ((w4.drewN nq).setCell ⟨gb, t / 8, none⟩ (.int .u8 ((xorBit x8 (t % 8)).toNat : Int)))) := (below_drewN b4.out nq).setCell (by simp only; omega) _
      have k5 : Hid (Blk ((w4.drewN nq).setCell ⟨gb, t / 8, none⟩ (.int .u8 ((xorBit x8 (t % 8)).toNat : Int))) w.heap.size 33 (builtCells kd (.slice o xs.length cap) val oth)) := (k4.out.drewN nq).set_other _ _ (by simp only; omega)
      have o5 : Hid (Own ((w4.drewN nq).setCell ⟨gb, t / 8, none⟩ (.int .u8 ((xorBit x8 (t % 8)).toNat : Int))) (w.heap.size + 1) 5 (.slice (some ⟨gb, 0, none⟩) 32 cb) 32 ((flipAt I t).map fun b => .int .u8 (b.toNat : Int))) := by
        have h := (o4.out.kept (w' := w4.drewN nq) fun _ _ => rfl).stored (t / 8) (.int .u8 ((xorBit x8 (t % 8)).toNat : Int))
        rw [show (I.map fun b => Value.int .u8 (b.toNat : Int)).set (t / 8) (.int .u8 ((xorBit x8 (t % 8)).toNat : Int)) = (flipAt I t).map fun b => .int .u8 (b.toNat : Int) by rw [hFl.out, List.map_set]] at h
        exact h
      clear b4 k4 o4 eM fM hxo hFl i3 i5 hx256
      generalize (w4.drewN nq).setCell ⟨gb, t / 8, none⟩ (.int .u8 ((xorBit x8 (t % 8)).toNat : Int)) = w5 at *
      have hVl := valOf_length val
      have e2 : ∀ (d : Nat) (os : Array Obj), (Go.Sort.grow (redrawn w5 d) os).cell? ⟨w.heap.size, 2, none⟩ = some (.int .i64 val) := fun d os => ((k5.out.below (below_regrown w5 d os) k5.out.lt).cell 2).trans rfl
      have HH1 : Hid (∀ (d : Nat) (os : Array Obj), Calls Tryd.prog 20 #[.int .i64 val] (Go.Sort.grow (redrawn w5 d) os) fun e w'' => e = .returned (.string ⟨(valOf val).toArray⟩) ∧ ∃ p : Regrown, w'' = Go.Sort.grow (redrawn w5 p.d) p.os) := fun d os => Calls.regrown_of (valueOf_any val _ a3 a4)
      have HH2 : Hid (∀ (d : Nat) (os : Array Obj), Calls Tryd.prog 30 #[.int .i64 k, .string ((⟨#[4]⟩ : ByteArray) ++ ⟨(valOf val).toArray⟩)] (Go.Sort.grow (redrawn w5 d) os) fun e w'' => e = .returned (.string ⟨(dg k (4 :: valOf val)).toArray⟩) ∧ ∃ p : Regrown, w'' = Go.Sort.grow (redrawn w5 p.d) p.os) := fun d os => by
        have hap4 : (⟨#[4]⟩ : ByteArray) ++ ⟨(valOf val).toArray⟩ = ⟨(4 :: valOf val).toArray⟩ := by
          apply ByteArray.ext
          apply Array.toList_inj.1
          simp [ByteArray.data_append]
        rw [hap4]
        exact Calls.regrown_of (sealed_any k ⟨(4 :: valOf val).toArray⟩ _ hk1 hk2 (by show (4 :: valOf val).length ≤ _; simp; omega) ((HT.out.below b5.out (Nat.le_refl _)).below (below_regrown w5 d os) (Nat.le_refl _)))
      have Hst : Hid (∀ (d : Nat) (os : Array Obj), (convert 42 9 (.slice (some ⟨gb, 0, none⟩) 32 cb)).run Tryd.prog (Go.Sort.grow (redrawn w5 d) os) = .ok (.string ⟨(flipAt I t).toArray⟩) (Go.Sort.grow (redrawn w5 d) os)) := fun d os => by
        have h := run_string_of (P := Tryd.prog) (Go.Sort.grow (redrawn w5 d) os) 42 9 5 gb 0 cb (flipAt I t) Tryd.underlying42 Tryd.underlying5 Tryd.underlying9 (fun j hj => by
          rw [Nat.zero_add, (o5.out.below (below_regrown w5 d os) (Nat.le_refl _)).cell j (by omega), List.getElem?_map, List.getD_eq_getElem?_getD, List.getElem?_eq_getElem hj]
          rfl)
        rw [hOl] at h
        exact h
      have hYl : (dg k (4 :: valOf val)).length = k := dg_length k _ hk2
      generalize dg k (4 :: valOf val) = Y at *
      generalize valOf val = V at *
      generalize flipAt I t = O at *
      have sV : (⟨V.toArray⟩ : ByteArray).size ≤ 4 := hVl
      have sO : (⟨O.toArray⟩ : ByteArray).size = 32 := hOl
      have sY : (⟨Y.toArray⟩ : ByteArray).size = k := hYl
      have hst := Hst.out
      go_wp2
      refine wp_region_quiet_below (by kernel_rfl) (by kernel_rfl) ?_
      repeat (any_goals (first | go_big_quiet_step ((first | (go_at_call 20; exact HH1.out _ _) | (go_at_call 30; exact HH2.out _ _))) | quiet_step ((first | (go_at_call 20; exact HH1.out _ _) | (go_at_call 30; exact HH2.out _ _)))))
      refine wpQuiet_nil ?_
      intro w6 hw'
      obtain ⟨z, hz⟩ := hw'
      have hb : Hid (Below w5.heap.size w5 w6) := by rw [hz]; exact below_regrown w5 z.d z.os
      clear hz HH1 HH2 Hst hst e2
      have b6 := below_then' b5.out hb.out b5.out.size
      have k6 : Hid (Blk w6 w.heap.size 33 (builtCells kd (.slice o xs.length cap) val oth)) := k5.out.below hb.out k5.out.lt
      clear b5 k5 o5 hb
      have HR : Hid (restOf p = O ++ Y) := by
        show _ = _
        rw [restOf, show p.kind = 2 by rw [Hp.out], if_neg (by decide), if_pos rfl, HO.out, HDg.out]
      have HEnd : Hid (p.endText k I = 1 :: (O ++ Y)) := by
        show _ = _
        rw [PW.endText, show p.kind = 2 by rw [Hp.out], if_neg (by decide), if_pos rfl, HO.out, HDg.out]
      have hOY : Hid ((⟨O.toArray⟩ : ByteArray) ++ ⟨Y.toArray⟩ = ⟨(O ++ Y).toArray⟩) := by
        apply ByteArray.ext
        apply Array.toList_inj.1
        simp [ByteArray.data_append]
      rw [hOY.out]
      have hRl : (O ++ Y).length ≤ 64 := by rw [List.length_append]; omega
      clear hOY
      generalize O ++ Y = RL at *
      have sR : (⟨RL.toArray⟩ : ByteArray).size ≤ 64 := hRl
      have hap1 : Hid ((⟨#[1]⟩ : ByteArray) ++ ⟨RL.toArray⟩ = ⟨(p.up k I 0).toArray⟩) := by
        rw [show p.up k I 0 = p.endText k I from rfl, HEnd.out]
        apply ByteArray.ext
        apply Array.toList_inj.1
        simp [ByteArray.data_append]
      have hul : (p.up k I 0).length ≤ 65 := up_length k I p hk2 hIl HOk.out 0 (by omega)
      go_wp2_with fail
      rw [hap1.out]
      refine (sealed_any k ⟨(p.up k I 0).toArray⟩ w6 hk1 hk2 (by show (p.up k I 0).length ≤ _; omega) (HT.out.below b6.out (Nat.le_refl _))).mono ?_
      rintro e w7 ⟨rfl, hb⟩
      rw [show dg k (⟨(p.up k I 0).toArray⟩ : ByteArray).data.toList = dg k (p.up k I 0) from rfl]
      have b7 := below_then' b6.out hb b6.out.size
      have k7 : Hid (Blk w7 w.heap.size 33 (builtCells kd (.slice o xs.length cap) val oth)) := k6.out.below hb k6.out.lt
      clear hb b6 k6 hap1 hul
      obtain ⟨E0, hE0⟩ : ∃ E0, dg k (p.up k I 0) = E0 := ⟨_, rfl⟩
      rw [hE0]
      have HE0 : Hid (E0 = dg k (p.up k I 0)) := hE0.symm
      clear hE0
      have HS : Hid (p.sibs = (xs.take 20).map (sibOf k)) := by show _ = _; rw [Hp.out]
      have hSl : p.sibs.length = n := by rw [HS.out, List.length_map]; exact Hn.out.symm
      have HSl : Hid (p.sibs.length = n) := hSl
      clear hSl
      obtain ⟨nb, hnb⟩ : ∃ nb : Nat, nb = (n + 7) / 8 := ⟨_, rfl⟩
      have hnbi : ((n : Int) + 7) / 8 = (nb : Int) := by omega
      have Hnb : Hid (nb = (n + 7) / 8) := hnb
      have hnb3 : nb ≤ 3 := by omega
      clear hnb
      have hmk := make_bytes nb (by omega)
      have m1 : Hid (Below w.heap.size w (w7.alloc (.cells (zrow nb) 5))) := b7.out.alloc b7.out.size _
      have m2 : Hid (Blk (w7.alloc (.cells (zrow nb) 5)) w.heap.size 33 (builtCells kd (.slice o xs.length cap) val oth)) := k7.out.alloc _
      have m3 : Hid (Blk (w7.alloc (.cells (zrow nb) 5)) w7.heap.size 5 (u8row (marksTo (dg k [0]) p.sibs 0))) := by
        have := Blk.new w7 5 (zrow nb)
        rw [show marksTo (dg k [0]) p.sibs 0 = List.replicate nb 0 by rw [marksTo, HSl.out, Hnb.out]]
        exact this
      have hgm : Hid (w.heap.size < w7.heap.size) := k7.out.lt
      go_wp2
      clear hmk
      rw [hnbi]
      clear hnbi
      generalize w7.alloc (.cells (zrow nb) 5) = wm at *
      generalize w7.heap.size = gm at *
      go_loopg [17, 18] n (fun q x i wr => ∃ j : Nat, j + q = n ∧ i = .int .i64 (j : Int) ∧ x = .string ⟨(toldL (dg k [0]) (p.sibs.take j)).toArray⟩ ∧ Below w.heap.size w wr ∧ Blk wr w.heap.size 33 (builtCells kd (.slice o xs.length cap) val oth) ∧ Blk wr gm 5 (u8row (marksTo (dg k [0]) p.sibs j)))
      case atStart => exact ⟨0, by omega, rfl, rfl, m1.out, m2.out, m3.out⟩
      case round =>
        obtain ⟨j, hj, rfl, rfl, c1, c2, c3⟩ := hrel
        clear m1 m2 m3
        have C1 : Hid (Below w.heap.size w wr) := c1
        have C2 : Hid (Blk wr w.heap.size 33 (builtCells kd (.slice o xs.length cap) val oth)) := c2
        have C3 : Hid (Blk wr gm 5 (u8row (marksTo (dg k [0]) p.sibs j))) := c3
        clear c1 c2 c3
        have e1 : wr.cell? ⟨w.heap.size, 1, none⟩ = some (.slice o xs.length cap) := (C2.out.cell 1).trans rfl
        have hgmw := hgm.out
        by_cases hlt : j < n
        · obtain ⟨b, off, rfl, hcap, hbw, hcell⟩ : ∃ b off, o = some ⟨b, off, none⟩ ∧ xs.length ≤ cap ∧ b < w.heap.size ∧ ∀ i, i < xs.length → w.cell? ⟨b, off + i, none⟩ = some (.int .i64 (xs.getD i 0)) := by
            rcases HX3.out with h | h
            · rw [h] at hnx; simp at hnx; omega
            · exact h
          have eX : wr.cell? ⟨b, off + j, none⟩ = some (.int .i64 (xs.getD j 0)) := by rw [C1.out.cell (p := ⟨b, off + j, none⟩) hbw]; exact hcell j (by omega)
          have hxm : xs.getD j 0 ∈ xs := by rw [List.getD_eq_getElem?_getD, List.getElem?_eq_getElem (by omega)]; exact List.getElem_mem _
          obtain ⟨y1, y2⟩ := HX1.out _ hxm
          have hSj : Hid (p.sibs.getD j [] = sibOf k (xs.getD j 0)) := by
            show _ = _
            rw [HS.out, List.getD_eq_getElem?_getD, List.getElem?_map, List.getElem?_take, if_pos (by omega), List.getD_eq_getElem?_getD, List.getElem?_eq_getElem (by omega)]
            rfl
          have hsl : (sibOf k (xs.getD j 0)).length = k := sibOf_length k _ hk2
          clear hxm hcell
          generalize xs.getD j 0 = y at *
          have i1 : (j : Int) < (xs.length : Int) := by omega
          go_wp2_with fail
          refine (sibling_any k y wr hk1 hk2 y1 y2 (HT.out.below C1.out (Nat.le_refl _))).mono ?_
          rintro e w6 ⟨rfl, hb6⟩
          have D1 := below_then' C1.out hb6 C1.out.size
          have D2 : Hid (Blk w6 w.heap.size 33 (builtCells kd (.slice (some ⟨b, off, none⟩) xs.length cap) val oth)) := C2.out.below hb6 C2.out.lt
          have D3 : Hid (Blk w6 gm 5 (u8row (marksTo (dg k [0]) p.sibs j))) := C3.out.below hb6 C3.out.lt
          clear hb6 C1 C2 C3 e1 eX
          have hjs : j < p.sibs.length := by rw [HSl.out]; exact hlt
          have htn : Hid (toldL (dg k [0]) (p.sibs.take (j + 1)) = toldL (dg k [0]) (p.sibs.take j) ++ (if sibOf k y = dg k [0] then [] else sibOf k y)) := by
            have := take_next (dg k [0]) p.sibs j hjs
            rw [hSj.out] at this
            exact this
          have hmn : Hid (marksTo (dg k [0]) p.sibs (j + 1) = if sibOf k y = dg k [0] then marksTo (dg k [0]) p.sibs j else (marksTo (dg k [0]) p.sibs j).set (j / 8) (orBit ((marksTo (dg k [0]) p.sibs j).getD (j / 8) 0) (j % 8))) := by
            show _ = _
            rw [marksTo, hSj.out]
          have hml : (marksTo (dg k [0]) p.sibs j).length = nb := by rw [marksTo_length, HSl.out, Hnb.out]
          have htl : (toldL (dg k [0]) (p.sibs.take j)).length ≤ 1000 := told_len _ _ k j (by rw [HS.out]; intro x hx; obtain ⟨y', _, rfl⟩ := List.mem_map.1 hx; exact sibOf_length k _ hk2) (by omega) (by omega)
          clear hjs
          have Hml : Hid ((marksTo (dg k [0]) p.sibs j).length = nb) := hml
          clear hml
          generalize marksTo (dg k [0]) p.sibs j = ML at *
          generalize toldL (dg k [0]) (p.sibs.take j) = TL at *
          generalize sibOf k y = Z at *
          by_cases hZ : Z = dg k [0]
          · have hzq : (Z == dg k [0]) = true := by rw [beq_iff_eq]; exact hZ
            have htn' := htn.out
            have hmn' := hmn.out
            rw [if_pos hZ, List.append_nil] at htn'
            rw [if_pos hZ] at hmn'
            have Ht : Hid (toldL (dg k [0]) (p.sibs.take (j + 1)) = TL) := htn'
            have Hmm : Hid (marksTo (dg k [0]) p.sibs (j + 1) = ML) := hmn'
            clear htn' hmn' htn hmn hZ
            go_wp2
            go_roundg (n - (j + 1))
            case measure => omega
            case rel =>
              go_light
              exact ⟨j + 1, by omega, by go_num, by rw [Ht.out], D1.out, D2.out, by rw [Hmm.out]; exact D3.out⟩
          · have hzq : (Z == dg k [0]) = false := by rw [beq_eq_false_iff_ne]; exact hZ
            have htn' := htn.out
            have hmn' := hmn.out
            rw [if_neg hZ] at htn'
            rw [if_neg hZ] at hmn'
            have Ht : Hid (toldL (dg k [0]) (p.sibs.take (j + 1)) = TL ++ Z) := htn'
            have Hmm : Hid (marksTo (dg k [0]) p.sibs (j + 1) = ML.set (j / 8) (orBit (ML.getD (j / 8) 0) (j % 8))) := hmn'
            clear htn' hmn' htn hmn hZ
            have hj8 : j / 8 < nb := by have := Hnb.out; omega
            have eM : w6.cell? ⟨gm, j / 8, none⟩ = some (.int .u8 ((ML.getD (j / 8) 0).toNat : Int)) := by rw [D3.out.cell]; exact u8row_get _ _ (by rw [Hml.out]; exact hj8)
            have fM : w6.frozen? ⟨gm, j / 8, none⟩ = false := D3.out.frozen _
            have hor : bits .or .u8 ((ML.getD (j / 8) 0).toNat : Int) (128 / 2 ^ (j % 8)) = ((orBit (ML.getD (j / 8) 0) (j % 8)).toNat : Int) := or_byte _ _ (Nat.mod_lt _ (by omega))
            have hx256 := (ML.getD (j / 8) 0).toNat_lt
            have hset : Hid (∀ V : Int, V = ((orBit (ML.getD (j / 8) 0) (j % 8)).toNat : Int) → (u8row ML).setIfInBounds (j / 8) (.int .u8 V) = u8row (ML.set (j / 8) (orBit (ML.getD (j / 8) 0) (j % 8)))) := fun V hV => by rw [hV]; exact u8row_set _ _ _
            generalize ML.getD (j / 8) 0 = x8 at *
            have i3 : (j : Int) / 8 < (nb : Int) := by omega
            have i5 : (0 : Int) ≤ (j : Int) / 8 := by omega
            go_wp2
            refine Tail.tail_drew 13 (by kernel_rfl) (by kernel_rfl) ?_
            simp only [List.take_succ_cons, List.take_zero, List.drop_succ_cons, List.drop_zero]
            repeat (any_goals (first | go_big_quiet_step ((fail)) | quiet_step ((fail))))
            refine wpQuiet_nil ?_
            intro _ hw'
            obtain ⟨nq, rfl⟩ := hw'
            go_wp2
            go_roundg (n - (j + 1))
            case measure => omega
            case rel =>
              go_light
              refine ⟨j + 1, by omega, by go_num, ?_, (below_drewN D1.out nq).setCell (by simp only; omega) _, (D2.out.drewN nq).set_other _ _ (by simp only; omega), ?_⟩
              · rw [Ht.out]
                refine congrArg Value.string (ByteArray.ext ?_)
                simp [ByteArray.data_append]
              · rw [Hmm.out, ← hset.out _ rfl]
                exact (D3.out.drewN nq).set_same _ _
        · obtain rfl : j = n := by omega
          clear e1
          have htake : Hid (toldL (dg k [0]) (p.sibs.take j) = toldL (dg k [0]) p.sibs) := by show _ = _; rw [List.take_of_length_le (by rw [HSl.out]; exact Nat.le_refl _)]
          rw [htake.out]
          have htl : (toldL (dg k [0]) p.sibs).length ≤ 1000 := by
            have := told_len (dg k [0]) p.sibs k j (by rw [HS.out]; intro x hx; obtain ⟨y', _, rfl⟩ := List.mem_map.1 hx; exact sibOf_length k _ hk2) (by omega) (by omega)
            rw [htake.out] at this
            exact this
          clear htake
          go_wp2
          go_loopg [13, 20] j (fun q x i wr => ∃ t : Nat, t + q = j ∧ i = .int .i64 ((j : Int) - 1 - (t : Int)) ∧ x = .string ⟨(dg k (p.up k I t)).toArray⟩ ∧ Below w.heap.size w wr ∧ Blk wr w.heap.size 33 (builtCells kd (.slice o xs.length cap) val oth) ∧ Blk wr gm 5 (u8row (marksTo (dg k [0]) p.sibs j)))
          case atStart => exact ⟨0, by omega, by go_num, by rw [HE0.out], C1.out, C2.out, C3.out⟩
          case round =>
            obtain ⟨u, hu, rfl, rfl, c1, c2, c3⟩ := hrel
            clear C1 C2 C3
            have C1 : Hid (Below w.heap.size w wr) := c1
            have C2 : Hid (Blk wr w.heap.size 33 (builtCells kd (.slice o xs.length cap) val oth)) := c2
            have C3 : Hid (Blk wr gm 5 (u8row (marksTo (dg k [0]) p.sibs j))) := c3
            clear c1 c2 c3
            by_cases hlt2 : u < j
            · obtain ⟨t, ht⟩ : ∃ t : Nat, t = j - 1 - u := ⟨_, rfl⟩
              have hti : (j : Int) - 1 - (u : Int) = (t : Int) := by omega
              rw [hti]
              have Ht : Hid (t = j - 1 - u) := ht
              have htl' : t < j := by omega
              have Hti : Hid ((t : Int) - 1 = (j : Int) - 1 - ((u + 1 : Nat) : Int)) := by show _ = _; omega
              clear ht hti
              obtain ⟨b, off, rfl, hcap, hbw, hcell⟩ : ∃ b off, o = some ⟨b, off, none⟩ ∧ xs.length ≤ cap ∧ b < w.heap.size ∧ ∀ i, i < xs.length → w.cell? ⟨b, off + i, none⟩ = some (.int .i64 (xs.getD i 0)) := by
                rcases HX3.out with h | h
                · rw [h] at hnx; simp at hnx; omega
                · exact h
              have e1 : wr.cell? ⟨w.heap.size, 1, none⟩ = some (.slice (some ⟨b, off, none⟩) xs.length cap) := (C2.out.cell 1).trans rfl
              have eX : wr.cell? ⟨b, off + t, none⟩ = some (.int .i64 (xs.getD t 0)) := by rw [C1.out.cell (p := ⟨b, off + t, none⟩) hbw]; exact hcell t (by omega)
              have hxm : xs.getD t 0 ∈ xs := by rw [List.getD_eq_getElem?_getD, List.getElem?_eq_getElem (by omega)]; exact List.getElem_mem _
              obtain ⟨y1, y2⟩ := HX1.out _ hxm
              have hSj : Hid (p.sibs.getD t [] = sibOf k (xs.getD t 0)) := by
                show _ = _
                rw [HS.out, List.getD_eq_getElem?_getD, List.getElem?_map, List.getElem?_take, if_pos (by omega), List.getD_eq_getElem?_getD, List.getElem?_eq_getElem (by omega)]
                rfl
              have hsl : (sibOf k (xs.getD t 0)).length = k := sibOf_length k _ hk2
              have U0 : Hid (bitN I t = 0 → p.up k I (u + 1) = 2 :: (dg k (p.up k I u) ++ sibOf k (xs.getD t 0))) := fun h => by
                have e : p.sibs.length - 1 - u = t := by rw [HSl.out]; exact Ht.out.symm
                rw [PW.up, e, if_pos h, hSj.out]
              have U1 : Hid (bitN I t = 1 → p.up k I (u + 1) = 2 :: (sibOf k (xs.getD t 0) ++ dg k (p.up k I u))) := fun h => by
                have e : p.sibs.length - 1 - u = t := by rw [HSl.out]; exact Ht.out.symm
                rw [PW.up, e, if_neg (by omega), hSj.out]
              have hel : (dg k (p.up k I u)).length = k := dg_length k _ hk2
              clear hxm hcell
              generalize xs.getD t 0 = y at *
              have i1 : (t : Int) < (xs.length : Int) := by omega
              go_wp2_with fail
              refine (sibling_any k y wr hk1 hk2 y1 y2 (HT.out.below C1.out (Nat.le_refl _))).mono ?_
              rintro e w6 ⟨rfl, hb6⟩
              have D1 := below_then' C1.out hb6 C1.out.size
              have D2 : Hid (Blk w6 w.heap.size 33 (builtCells kd (.slice (some ⟨b, off, none⟩) xs.length cap) val oth)) := C2.out.below hb6 C2.out.lt
              have D3 : Hid (Blk w6 gm 5 (u8row (marksTo (dg k [0]) p.sibs j))) := C3.out.below hb6 C3.out.lt
              clear hb6 C1 C2 C3 e1 eX
              generalize sibOf k y = Z at *
              generalize dg k (p.up k I u) = E at *
              have hI32 : (⟨I.toArray⟩ : ByteArray).size = 32 := hIl
              go_wp2_with fail
              refine (kbit_any ⟨I.toArray⟩ t w6 (by rw [hI32]; omega) (by omega) (by omega)).mono ?_
              rw [show (⟨I.toArray⟩ : ByteArray).data.toList = I from rfl]
              rintro e w7 ⟨rfl, hw7⟩
              obtain rfl : w6 = w7 := hw7.symm
              clear hw7
              have hbn := bitN_lt I t
              generalize bitN I t = bt at *
              have HTb : Hid (Tabs w6) := HT.out.below D1.out (Nat.le_refl _)
              have sE : (⟨E.toArray⟩ : ByteArray).size = k := hel
              have sZ : (⟨Z.toArray⟩ : ByteArray).size = k := hsl
              rcases hbn with rfl | rfl
              · have hap : Hid ((⟨#[2]⟩ : ByteArray) ++ ⟨E.toArray⟩ ++ ⟨Z.toArray⟩ = ⟨(p.up k I (u + 1)).toArray⟩) := by
                  rw [U0.out rfl]
                  apply ByteArray.ext
                  apply Array.toList_inj.1
                  simp [ByteArray.data_append]
                have hul : (p.up k I (u + 1)).length ≤ 65 := up_length k I p hk2 hIl HOk.out _ (by rw [HSl.out]; omega)
                go_wp2_with fail
                rw [hap.out]
                refine (sealed_any k ⟨(p.up k I (u + 1)).toArray⟩ w6 hk1 hk2 (by show (p.up k I (u + 1)).length ≤ _; omega) HTb.out).mono ?_
                rintro e w8 ⟨rfl, hb8⟩
                have F1 := below_then' D1.out hb8 D1.out.size
                have F2 : Hid (Blk w8 w.heap.size 33 (builtCells kd (.slice (some ⟨b, off, none⟩) xs.length cap) val oth)) := D2.out.below hb8 D2.out.lt
                have F3 : Hid (Blk w8 gm 5 (u8row (marksTo (dg k [0]) p.sibs j))) := D3.out.below hb8 D3.out.lt
                clear hb8 hap
                go_wp2
                go_roundg (j - (u + 1))
                case measure => omega
                case rel =>
                  go_light
                  exact ⟨u + 1, by omega, by rw [← Hti.out], rfl, F1.out, F2.out, F3.out⟩
              · have hap : Hid ((⟨#[2]⟩ : ByteArray) ++ ⟨Z.toArray⟩ ++ ⟨E.toArray⟩ = ⟨(p.up k I (u + 1)).toArray⟩) := by
                  rw [U1.out rfl]
                  apply ByteArray.ext
                  apply Array.toList_inj.1
                  simp [ByteArray.data_append]
                have hul : (p.up k I (u + 1)).length ≤ 65 := up_length k I p hk2 hIl HOk.out _ (by rw [HSl.out]; omega)
                go_wp2_with fail
                rw [hap.out]
                refine (sealed_any k ⟨(p.up k I (u + 1)).toArray⟩ w6 hk1 hk2 (by show (p.up k I (u + 1)).length ≤ _; omega) HTb.out).mono ?_
                rintro e w8 ⟨rfl, hb8⟩
                have F1 := below_then' D1.out hb8 D1.out.size
                have F2 : Hid (Blk w8 w.heap.size 33 (builtCells kd (.slice (some ⟨b, off, none⟩) xs.length cap) val oth)) := D2.out.below hb8 D2.out.lt
                have F3 : Hid (Blk w8 gm 5 (u8row (marksTo (dg k [0]) p.sibs j))) := D3.out.below hb8 D3.out.lt
                clear hb8 hap
                go_wp2
                go_roundg (j - (u + 1))
                case measure => omega
                case rel =>
                  go_light
                  exact ⟨u + 1, by omega, by rw [← Hti.out], rfl, F1.out, F2.out, F3.out⟩
            · obtain rfl : u = j := by omega
              have hst1 : (convert 42 9 (.slice (some ⟨wr.heap.size, 0, none⟩) 3 3)).run Tryd.prog (wr.alloc (.cells #[.int .u8 2, .int .u8 0, .int .u8 (u : Int)] 5)) = .ok (.string ⟨#[UInt8.ofNat 2, 0, UInt8.ofNat u]⟩) (wr.alloc (.cells #[.int .u8 2, .int .u8 0, .int .u8 (u : Int)] 5)) := by
                have hB : Blk (wr.alloc (.cells #[.int .u8 2, .int .u8 0, .int .u8 (u : Int)] 5)) wr.heap.size 5 (u8row [UInt8.ofNat 2, 0, UInt8.ofNat u]) := by
                  have h := Blk.new wr 5 #[.int .u8 2, .int .u8 0, .int .u8 (u : Int)]
                  rw [show u8row [UInt8.ofNat 2, 0, UInt8.ofNat u] = #[.int .u8 2, .int .u8 0, .int .u8 (u : Int)] by
                    show #[Value.int .u8 ((UInt8.ofNat 2).toNat : Int), .int .u8 ((0 : UInt8).toNat : Int), .int .u8 ((UInt8.ofNat u).toNat : Int)] = _
                    rw [show ((UInt8.ofNat u).toNat : Int) = (u : Int) by rw [UInt8.toNat_ofNat']; omega]
                    rfl]
                  exact h
                exact str_row hB 3
              have hst2 : (convert 42 9 (.slice (some ⟨gm, 0, none⟩) nb nb)).run Tryd.prog (wr.alloc (.cells #[.int .u8 2, .int .u8 0, .int .u8 (u : Int)] 5)) = .ok (.string ⟨(marksTo (dg k [0]) p.sibs u).toArray⟩) (wr.alloc (.cells #[.int .u8 2, .int .u8 0, .int .u8 (u : Int)] 5)) := by
                have h := str_row (C3.out.alloc (.cells #[.int .u8 2, .int .u8 0, .int .u8 (u : Int)] 5)) nb
                rw [show (marksTo (dg k [0]) p.sibs u).length = nb by rw [marksTo_length, HSl.out, Hnb.out]] at h
                exact h
              have Bf : Hid (Below w.heap.size w (wr.alloc (.cells #[.int .u8 2, .int .u8 0, .int .u8 (u : Int)] 5))) := C1.out.alloc C1.out.size _
              have hml : (⟨(marksTo (dg k [0]) p.sibs u).toArray⟩ : ByteArray).size ≤ 3 := by show (marksTo (dg k [0]) p.sibs u).length ≤ 3; rw [marksTo_length, HSl.out]; have := Hnb.out; omega
              have htb : (⟨(toldL (dg k [0]) p.sibs).toArray⟩ : ByteArray).size ≤ 1000 := htl
              have hfin : Hid ((⟨#[UInt8.ofNat 2, 0, UInt8.ofNat u]⟩ : ByteArray) ++ ⟨(marksTo (dg k [0]) p.sibs u).toArray⟩ ++ ⟨(toldL (dg k [0]) p.sibs).toArray⟩ ++ ⟨RL.toArray⟩ = ⟨(encode k p).toArray⟩) := by
                have h1 : p.kind = 2 := by rw [Hp.out]
                apply ByteArray.ext
                apply Array.toList_inj.1
                rw [encode, h1, HSl.out, HR.out]
                simp [ByteArray.data_append]
              have h3s : (⟨#[UInt8.ofNat 2, 0, UInt8.ofNat u]⟩ : ByteArray).size = 3 := rfl
              generalize (⟨#[UInt8.ofNat 2, 0, UInt8.ofNat u]⟩ : ByteArray) = A1 at *
              generalize (⟨(marksTo (dg k [0]) p.sibs u).toArray⟩ : ByteArray) = A2 at *
              generalize (⟨(toldL (dg k [0]) p.sibs).toArray⟩ : ByteArray) = A3 at *
              go_wp2
              go_ret2
              refine ⟨Bf.out, ?_⟩
              rw [HPW.out, HI.out, ← hfin.out, show p.root k I = dg k (p.up k I u) by rw [PW.root, PW.textAt, HSl.out, Nat.sub_zero]]
              rfl
end Go.Proofs.YtghpcgagijhlaaaDoor
