/- The document's own reading of a proof: thicketref.read answers what the plain function parse says, for every proof of at most 2^47 - 4096 bytes, every index of 32 bytes and every width of 1 to 32; nothing that was in memory turns. -/
import Derived.Test.YtghpcgagijhlaaaDoorWay
import Derived.Deep.AppendLies
import Derived.Deep.RegionLaw
namespace Go.Proofs.YtghpcgagijhlaaaDoor
open Go.RowKit Sha

def str (l : List UInt8) : Value := .string ⟨l.toArray⟩

/-- what read hands back -/
def ReadPost (k : Nat) (idx s : List UInt8) (w : World) (e : Ending) (w' : World) : Prop :=
  Below w.heap.size w w' ∧
  ((parse k idx s = none ∧ ∃ (a : Int) (b : Option Addr) (c d : Nat) (x y z : ByteArray), e = .returned (.tuple #[.agg #[.int .i64 a, .slice b c d, .string x, .string y, .string z], .bool false])) ∨
   ∃ p v, parse k idx s = some p ∧ e = .returned (.tuple #[.agg #[.int .i64 p.kind, v, .string ⟨p.value.toArray⟩, .string ⟨p.other.toArray⟩, .string ⟨p.digest.toArray⟩], .bool true]) ∧ Own w' w.heap.size 9 v p.sibs.length (p.sibs.map fun x => .string ⟨x.toArray⟩))

theorem results_row_tmp {P : Program} {fn : Func} {p q : Tmp} {ty : TypeId} (h : fn.results = #[.cell p ty, .tmp q]) (tmps : Array Value) (w : World) (g : Nat) (t : TypeId) (cs : Array Value) (fr : Nat × Nat) (d : TypeDesc)
    (hp : tmps.getD p undef = .pointer (some ⟨g, 0, none⟩)) (hg : w.heap[g]? = some (.cells cs t fr))
    (hu : P.underlying ty = some d) (hd : (match d with | .struct _ | .array _ _ => true | _ => false) = true) (hi : (P.info? ty).map (·.size) = some cs.size) (v : Value) (hv : tmps.getD q undef = v) :
    (results fn tmps).run P w = .ok (.tuple #[.agg cs, v]) w := by
  have hp' : tmps[p]?.getD undef = .pointer (some ⟨g, 0, none⟩) := by simpa using hp
  have hv' : tmps[q]?.getD undef = v := by simpa using hv
  simp [results, h, hp', hv', asAddr, run_loadVar_row w g t ty cs fr d hg hu hd hi]

/-- where it fails ahead of the siblings -/
theorem fail_post {k : Nat} {idx s : List UInt8} {w w' : World} {a : Int} {b : Option Addr} {c d : Nat} {x y z : ByteArray} (hp : parse k idx s = none) (hb : Below w.heap.size w w') :
    ReadPost k idx s w (.returned (.tuple #[.agg #[.int .i64 a, .slice b c d, .string x, .string y, .string z], .bool false])) w' :=
  ⟨hb, .inl ⟨hp, a, b, c, d, x, y, z, rfl⟩⟩

set_option maxRecDepth 100000 in
set_option maxHeartbeats 1000000 in
theorem read_head1 (k : Nat) (idx s : ByteArray) (w : World) (h : s.size < 3) :
    Calls Tryd.prog 28 #[.int .i64 k, .string idx, .string s] w (ReadPost k idx.data.toList s.data.toList w) := by
  have hp : Hid (parse k idx.data.toList s.data.toList = none) := parse_short (.inl (by simpa using h))
  go_enter Tryd.func28, Tryd.ntmps28
  go_wp2
  exact bodyPost_ret (results_row_tmp Tryd.results28 _ _ w.heap.size _ _ _ _ rfl (Blk.new w _ _) Tryd.underlying53 rfl (by kernel_rfl) _ rfl) rfl (fail_post hp.out ((Below.refl _ _).alloc (Nat.le_refl _) _))
set_option maxRecDepth 100000 in
set_option maxHeartbeats 1000000 in
theorem read_head2 (k : Nat) (idx s : ByteArray) (w : World) (h3 : 3 ≤ s.size) (hk : 2 < kindOf s.data.toList) (hs : s.size ≤ 140737488351232) :
    Calls Tryd.prog 28 #[.int .i64 k, .string idx, .string s] w (ReadPost k idx.data.toList s.data.toList w) := by
  have hp : Hid (parse k idx.data.toList s.data.toList = none) := parse_short (.inr (.inl hk))
  have hk0 : 2 < ((s[0]'(by omega)).toNat : Int) := by rw [byte_at s 0 (by omega)]; unfold kindOf at hk; omega
  go_enter Tryd.func28, Tryd.ntmps28
  go_wp2
  exact bodyPost_ret (results_row_tmp Tryd.results28 _ _ w.heap.size _ _ _ _ rfl (Blk.new w _ _) Tryd.underlying53 rfl (by kernel_rfl) _ rfl) rfl (fail_post hp.out ((Below.refl _ _).alloc (Nat.le_refl _) _))

theorem index_at (s : ByteArray) (i : Nat) (hi : i < s.size) (W : World) : (Instr.index 9 (.string s) (.int .i64 (i : Int))).run Tryd.prog W = .ok (.int .u8 ((s.data.toList.getD i 0).toNat : Int)) W := by
  rw [run_index_string W 9 s .i64 i Tryd.underlying9, dif_pos ⟨by omega, by omega⟩]
  have e : ((i : Int).toNat) = i := Int.toNat_natCast i
  simp only [e]
  rw [byte_at s i hi]
theorem depth_lt (l : List UInt8) : depthOf l < 65536 := by
  have h1 := (l.getD 1 0).toNat_lt; have h2 := (l.getD 2 0).toNat_lt
  unfold depthOf; omega

def zeroWay : Array Value := #[.int .i64 0, .slice none 0 0, .string ⟨#[]⟩, .string ⟨#[]⟩, .string ⟨#[]⟩]
def wayCells (kd : Nat) (v : Value) (a b c : List UInt8) : Array Value := #[.int .i64 (kd : Int), v, .string ⟨a.toArray⟩, .string ⟨b.toArray⟩, .string ⟨c.toArray⟩]

theorem Own.lower {w : World} {base b : Nat} {e : TypeId} {v : Value} {n : Nat} {xs : List Value} (h : Own w base e v n xs) (hb : b ≤ base) : Own w b e v n xs := by
  refine ⟨h.1, h.2.imp id ?_⟩
  rintro ⟨g, cap, cur, fz, h1, h2, h3⟩
  exact ⟨g, cap, cur, fz, h1, Nat.le_trans hb h2, h3⟩
theorem way_one {w : World} {base : Nat} {e : TypeId} {v : Value} {n : Nat} {xs : List Value} (h : Own w base e v n xs) {kd : Nat} {a b c : List UInt8} : (wayCells kd v a b c).all (·.oneCell') = true := by
  rcases h.2 with ⟨rfl, _⟩ | ⟨g, cap, _, _, rfl, _⟩ <;> simp [wayCells, Value.oneCell']
/-- where it ends behind the siblings -/
theorem read_done {k d kd : Nat} {I L R a b c : List UInt8} {S : List (List UInt8)} {w w2 : World} {v : Value} {bl : Bool} (hP : parse k I L = endOf k I L S R) (hS : S.length = d) (hb : Below w.heap.size w w2)
    (ho : Own w2 (w.heap.size + 2) 9 v d (S.map fun x => .string ⟨x.toArray⟩)) (he : endOf k I L S R = if bl = true then some ⟨kd, S, a, b, c⟩ else none) :
    ReadPost k I L w (.returned (.tuple #[.agg (wayCells kd v a b c), .bool bl])) w2 := by
  refine ⟨hb, ?_⟩
  cases bl with
  | false =>
    refine .inl ⟨by rw [hP, he]; rfl, ?_⟩
    rcases ho.2 with ⟨rfl, _⟩ | ⟨g, cap, _, _, rfl, _⟩
    · exact ⟨_, _, _, _, _, _, _, rfl⟩
    · exact ⟨_, _, _, _, _, _, _, rfl⟩
  | true =>
    refine .inr ⟨⟨kd, S, a, b, c⟩, v, by rw [hP, he]; rfl, rfl, ?_⟩
    dsimp only
    rw [hS]
    exact ho.lower (by omega)
theorem ne_toList {a : ByteArray} {l : List UInt8} (h : ¬ a = ⟨l.toArray⟩) : (a.toList == l) = false := by
  rw [beq_eq_false_iff_ne]
  intro e
  apply h
  rw [ByteArray.toList_eq] at e
  subst e
  rfl
theorem keep_alloc {w : World} {g : Nat} {t : TypeId} {cs : Array Value} {o : Obj} {v : Value} (h : Blk w g t cs) (i : Nat) (hv : cs[i]? = some v) : (w.alloc o).drew.cell? ⟨g, i, none⟩ = some v ∧ (w.alloc o).drew.frozen? ⟨g, i, none⟩ = false := ⟨((h.alloc o).cell i).trans hv, (h.alloc o).frozen i⟩
theorem keep_cell {w w' : World} {row : Option Nat} {a : Addr} {v : Value} (hgr : w.grownBy w' row) (hlt : a.block < w.heap.size) (hne : some a.block ≠ row) (h : w.cell? a = some v ∧ w.frozen? a = false) : w'.cell? a = some v ∧ w'.frozen? a = false := by
  rw [hgr.cell_far a hlt hne, hgr.frozen_far a hlt hne]; exact h

set_option maxRecDepth 100000 in
set_option maxHeartbeats 4000000 in
theorem read_rest (k : Nat) (idx s : ByteArray) (w : World) (h3 : 3 ≤ s.size) (hk : kindOf s.data.toList ≤ 2) (hs : s.size ≤ 140737488351232) (hk1 : 1 ≤ k) (hk2 : k ≤ 32) (hi : idx.size = 32) :
    Calls Tryd.prog 28 #[.int .i64 k, .string idx, .string s] w (ReadPost k idx.data.toList s.data.toList w) := by
  have hx0 : ∀ W, (Instr.index 9 (.string s) (.int .i64 0)).run Tryd.prog W = .ok (.int .u8 ((kindOf s.data.toList : Nat) : Int)) W := index_at s 0 (by omega)
  have hx1 : ∀ W, (Instr.index 9 (.string s) (.int .i64 1)).run Tryd.prog W = .ok (.int .u8 ((s.data.toList.getD 1 0).toNat : Int)) W := index_at s 1 (by omega)
  have hx2 : ∀ W, (Instr.index 9 (.string s) (.int .i64 2)).run Tryd.prog W = .ok (.int .u8 ((s.data.toList.getD 2 0).toNat : Int)) W := index_at s 2 (by omega)
  have hd : 256 * ((s.data.toList.getD 1 0).toNat : Int) + ((s.data.toList.getD 2 0).toNat : Int) = ((depthOf s.data.toList : Nat) : Int) := by unfold depthOf; omega
  have hn : (((depthOf s.data.toList : Nat) : Int) + 7) / 8 = ((markBytes s.data.toList : Nat) : Int) := by unfold markBytes; omega
  have hdl := depth_lt s.data.toList
  have hnl : markBytes s.data.toList < 8193 := by unfold markBytes; omega
  have hb1 : ((s.data.toList.getD 1 0).toNat : Int) < 256 := by have := (s.data.toList.getD 1 0).toNat_lt; omega
  have hb2 : ((s.data.toList.getD 2 0).toNat : Int) < 256 := by have := (s.data.toList.getD 2 0).toNat_lt; omega
  have hc1 : 0 ≤ ((s.data.toList.getD 1 0).toNat : Int) := Int.natCast_nonneg _
  have hc2 : 0 ≤ ((s.data.toList.getD 2 0).toNat : Int) := Int.natCast_nonneg _
  generalize ((s.data.toList.getD 1 0).toNat : Int) = y1 at *
  generalize ((s.data.toList.getD 2 0).toNat : Int) = y2 at *
  have hLs : Hid (s.data.toList.length = s.size) := by show _ = _; simp
  have hIs : Hid (idx.data.toList.length = 32) := by show _ = _; rw [Array.length_toList]; exact hi
  generalize hL : s.data.toList = L at *
  have HL : Hid (s.data.toList = L) := hL
  clear hL
  generalize hI : idx.data.toList = I at *
  have HI : Hid (idx.data.toList = I) := hI
  clear hI
  generalize hkd : kindOf L = kd at *
  have Hkd : Hid (kindOf L = kd) := hkd
  generalize hdd : depthOf L = d at *
  have Hdd : Hid (depthOf L = d) := hdd
  generalize hnn : markBytes L = n at *
  have Hnn : Hid (markBytes L = n) := hnn
  clear hkd hdd hnn
  go_enter Tryd.func28, Tryd.ntmps28
  go_wp2
  go_quiet (fail)
  have b1 : Hid (Below w.heap.size w (((w.alloc (.cells zeroWay 53)).alloc (.cells (wayCells kd (.slice none 0 0) [] [] []) 53)).drewN nq)) := below_drewN (((Below.refl _ _).alloc (Nat.le_refl _) _).alloc (by simp) _) nq
  have b2 : Hid (Blk (((w.alloc (.cells zeroWay 53)).alloc (.cells (wayCells kd (.slice none 0 0) [] [] []) 53)).drewN nq) w.heap.size 53 zeroWay) := ((Blk.new _ _ _).alloc _).drewN nq
  have b3 : Hid (Blk (((w.alloc (.cells zeroWay 53)).alloc (.cells (wayCells kd (.slice none 0 0) [] [] []) 53)).drewN nq) (w.heap.size + 1) 53 (wayCells kd (.slice none 0 0) [] [] [])) := by
    have := Blk.new (w.alloc (.cells zeroWay 53)) 53 (wayCells kd (.slice none 0 0) [] [] [])
    rw [size_alloc] at this
    exact this.drewN nq
  have b4 : w.heap.size + 2 ≤ (((w.alloc (.cells zeroWay 53)).alloc (.cells (wayCells kd (.slice none 0 0) [] [] []) 53)).drewN nq).heap.size := by rw [size_drewN, size_alloc, size_alloc]; omega
  rw [show (((w.alloc (.cells #[.int .i64 0, .slice none 0 0, .string ⟨#[]⟩, .string ⟨#[]⟩, .string ⟨#[]⟩] 53)).alloc (.cells #[.int .i64 (kd : Int), .slice none 0 0, .string ⟨#[]⟩, .string ⟨#[]⟩, .string ⟨#[]⟩] 53)).drewN nq) = (((w.alloc (.cells zeroWay 53)).alloc (.cells (wayCells kd (.slice none 0 0) [] [] []) 53)).drewN nq) from rfl]
  generalize ((w.alloc (.cells zeroWay 53)).alloc (.cells (wayCells kd (.slice none 0 0) [] [] []) 53)).drewN nq = wr at *
  clear hx0 hx1 hx2 hb1 hb2 hc1 hc2
  by_cases hbad : 256 < d ∨ s.size < 3 + n
  · have hp : Hid (parse k I L = none) := parse_short (.inr (.inr (by rw [Hdd.out, Hnn.out, hLs.out]; exact hbad)))
    rcases hbad with h256 | hsn
    · go_wp2_with (refine wpList_store_row rfl 53 _ _ rfl w.heap.size zeroWay rfl rfl _ _ b2.out (by kernel_rfl) rfl (by kernel_rfl) ?_)
      exact bodyPost_ret (results_row_tmp Tryd.results28 _ _ w.heap.size _ _ _ _ rfl (b2.out.row_same _) Tryd.underlying53 rfl (by kernel_rfl) _ rfl) rfl (fail_post hp.out (below_setRow b1.out (Nat.le_refl _) _))
    · by_cases h256 : 256 < d
      · go_wp2_with (refine wpList_store_row rfl 53 _ _ rfl w.heap.size zeroWay rfl rfl _ _ b2.out (by kernel_rfl) rfl (by kernel_rfl) ?_)
        exact bodyPost_ret (results_row_tmp Tryd.results28 _ _ w.heap.size _ _ _ _ rfl (b2.out.row_same _) Tryd.underlying53 rfl (by kernel_rfl) _ rfl) rfl (fail_post hp.out (below_setRow b1.out (Nat.le_refl _) _))
      · go_wp2_with (refine wpList_store_row rfl 53 _ _ rfl w.heap.size zeroWay rfl rfl _ _ b2.out (by kernel_rfl) rfl (by kernel_rfl) ?_)
        exact bodyPost_ret (results_row_tmp Tryd.results28 _ _ w.heap.size _ _ _ _ rfl (b2.out.row_same _) Tryd.underlying53 rfl (by kernel_rfl) _ rfl) rfl (fail_post hp.out (below_setRow b1.out (Nat.le_refl _) _))
  · have h256 : d ≤ 256 := by omega
    have hsn : 3 + n ≤ s.size := by omega
    clear hbad
    go_wp2_with fail
    refine (H_any k ⟨#[0]⟩ _ hk1 hk2 (by decide)).mono ?_
    rintro e w1 ⟨rfl, hb⟩
    go_wp2
    have HB : Hid (Below wr.heap.size wr w1) := hb
    clear hb
    have hdn : d ≤ 8 * n := by rw [← Hnn.out, ← Hdd.out]; unfold markBytes; omega
    have hn32 : 8 * n ≤ 256 := by rw [← Hnn.out]; unfold markBytes; rw [Hdd.out]; omega
    go_loopg [11, 13] (8 * n) (fun q a i wr => ∃ (j at_ : Nat) (S : List (List UInt8)) (v : Value), j + q = 8 * n ∧ i = .int .i64 (j : Int) ∧ a = .int .i64 (at_ : Int) ∧ sibsTo k L (min j d) = some (S, at_) ∧ cleanTo L j ∧ Below w.heap.size w wr ∧ Blk wr w.heap.size 53 zeroWay ∧ Blk wr (w.heap.size + 1) 53 (wayCells kd v [] [] []) ∧ Own wr (w.heap.size + 2) 9 v (min j d) (S.map fun x => .string ⟨x.toArray⟩) ∧ w.heap.size + 2 ≤ wr.heap.size)
    case atStart =>
      refine ⟨0, 3 + n, [], .slice none 0 0, by omega, rfl, by go_num, ?_, fun i h1 h2 => by omega, b1.out.trans (HB.out.mono b1.out.size), b2.out.below HB.out b2.out.lt, b3.out.below HB.out b3.out.lt, ?_, Nat.le_trans b4 HB.out.size⟩
      · rw [Nat.zero_min, sibsTo, Hnn.out]
      · rw [Nat.zero_min]; exact Own.nil _ _ _
    case round =>
      obtain ⟨j, at_, S, v, hq, rfl, rfl, c0, c00, c1, c2, c3, c4, c5⟩ := hrel
      have C0 : Hid (sibsTo k L (min j d) = some (S, at_)) := c0
      have C00 : Hid (cleanTo L j) := c00
      have C1 : Hid (Below w.heap.size w wr) := c1
      have C2 : Hid (Blk wr w.heap.size 53 zeroWay) := c2
      have C3 : Hid (Blk wr (w.heap.size + 1) 53 (wayCells kd v [] [] [])) := c3
      have C4 : Hid (Own wr (w.heap.size + 2) 9 v (min j d) (S.map fun x => .string ⟨x.toArray⟩)) := c4
      have C5 : Hid (w.heap.size + 2 ≤ wr.heap.size) := c5
      clear c0 c00 c1 c2 c3 c4 c5 b1 b2 b3 b4 HB
      by_cases hlt : j < 8 * n
      · go_wp2_with fail
        have hxm : (s.extract 3 (3 + n)).data.toList = marksOf L := by rw [marksOf, Hnn.out, ← HL.out]; simp
        have hxs : (s.extract 3 (3 + n)).size = n := by simp; omega
        refine (bit_any (s.extract 3 (3 + n)) j wr (by rw [hxs]; omega) (by rw [hxs]; omega) (by omega)).mono ?_
        rw [hxm]
        clear hxm hxs
        have hbn := bitN_lt (marksOf L) j
        generalize hbv : bitN (marksOf L) j = b at *
        have Hbv : Hid (bitN (marksOf L) j = b) := hbv
        clear hbv
        rintro e w2 ⟨rfl, hw2⟩
        obtain rfl : wr = w2 := hw2.symm
        clear hw2
        by_cases hjd : j < d
        · have hmin : Hid (min j d = j) := by show _ = _; omega
          have hmin' : Hid (min (j + 1) d = j + 1) := by show _ = _; omega
          rw [hmin.out] at C0 C4
          obtain ⟨q1, q2, q3⟩ := sibs_at (by rw [Hnn.out, hLs.out]; exact hsn) C0.out
          rw [hLs.out] at q2
          rcases hbn with rfl | rfl
          · have e0 : wr.cell? ⟨w.heap.size + 1, 1, none⟩ = some v := by rw [C3.out.cell]; rfl
            have hne : some (w.heap.size + 1) ≠ v.ownBlock := grown_row C4.out _ (by omega)
            have hj1 : j + 1 ≤ 1000000 := by omega
            go_wp2_with (at_builtin; refine append_strs rfl _ _ rfl (w.heap.size + 2) _ _ _ rfl C4.out [_] 1 rfl (by simp) (by simp [Value.oneCell']) hj1 C5.out ?_; intro v' w' hown hgr; obtain ⟨g', cap', rfl⟩ := hown.form (by simp); have p3 : Hid (Blk w' (w.heap.size + 1) 53 (wayCells kd v [] [] [])) := C3.out.grown hgr hne; have e1 : w'.cell? ⟨w.heap.size + 1, 1, none⟩ = some v := (p3.out.cell 1).trans rfl; have e2 : w'.frozen? ⟨w.heap.size + 1, 1, none⟩ = false := p3.out.frozen 1)
            go_roundg (8 * n - (j + 1))
            case measure => omega
            case rel =>
              go_light
              refine ⟨j + 1, at_, S ++ [dg k [0]], _, by omega, by go_num, rfl, by rw [hmin'.out]; exact sibs_step0 C0.out Hbv.out, fun i h1 h2 => ?_, (below_grown C1.out C4.out hgr (by omega) C1.out.size).setCell (by simp) _, (C2.out.grown hgr (grown_row C4.out _ (by omega))).set_other _ _ (by simp), p3.out.set_same 1 _, ?_, by rw [size_setCell]; exact Nat.le_trans C5.out hgr.size⟩
              · rw [Hdd.out] at h1; omega
              · rw [hmin'.out, List.map_append]
                exact hown.kept fun g hg => Below.heap_setCell _ _ _ _ (by have := (hown.lt g hg).1; simp only; omega)
          · by_cases hfit : s.size < at_ + k
            · have hp : Hid (parse k I L = none) := parse_sibs (by
                have := sibs_none (sibs_fail C0.out Hbv.out (by rw [hLs.out]; omega)) (d - (j + 1))
                rw [show j + 1 + (d - (j + 1)) = d from by omega] at this
                rw [Hdd.out]; exact this)
              go_wp2_with (refine wpList_store_row rfl 53 _ _ rfl w.heap.size zeroWay rfl rfl _ _ C2.out (by kernel_rfl) rfl (by kernel_rfl) ?_)
              exact bodyPost_ret (results_row_tmp Tryd.results28 _ _ w.heap.size _ _ _ _ rfl (C2.out.row_same _) Tryd.underlying53 rfl (by kernel_rfl) _ rfl) rfl (fail_post hp.out (below_setRow C1.out (Nat.le_refl _) _))
            · have e0 : wr.cell? ⟨w.heap.size + 1, 1, none⟩ = some v := by rw [C3.out.cell]; rfl
              have f0 : wr.frozen? ⟨w.heap.size + 1, 1, none⟩ = false := C3.out.frozen 1
              have hne : some (w.heap.size + 1) ≠ v.ownBlock := grown_row C4.out _ (by omega)
              have o1 : Hid (Own wr.drew (w.heap.size + 2) 9 v j (S.map fun x => .string ⟨x.toArray⟩)) := C4.out.kept fun _ _ => rfl
              have hxc : Hid (s.extract at_ (at_ + k) = ⟨((L.drop at_).take k).toArray⟩) := by
                show _ = _
                rw [← HL.out]
                apply ByteArray.ext
                apply Array.toList_inj.1
                simp
              have hlt3 := C3.out.lt
              have hj1 : j + 1 ≤ 1000000 := by omega
              have i6 : ((at_ : Int) + (k : Int)).toNat = at_ + k := by omega
              have i5 : IntKind.i64.wrap ((at_ : Int) + (k : Int)) = (at_ : Int) + (k : Int) := by rw [IntKind.wrap_i64]; omega
              have i1 : (0 : Int) ≤ (at_ : Int) := Int.natCast_nonneg _
              have i2 : (at_ : Int) ≤ (at_ : Int) + (k : Int) := by omega
              have i3 : (at_ : Int) + (k : Int) ≤ (s.size : Int) := by omega
              have i4 : (0 : Int) ≤ (at_ : Int) + (k : Int) := by omega
              go_wp2
              have hnew := World.new_ne wr _ e0
              go_region_law ((refine step_append_strs (by rfl) _ _ (by rfl) (w.heap.size + 2) _ _ _ (by rfl) o1.out [_] 1 (by rfl) (by simp) (by simp [Value.oneCell']) hj1 C5.out ?_; intro v' w' hown hgr; obtain ⟨g', cap', rfl⟩ := hown.form (by simp); obtain ⟨e1, e2⟩ := keep_cell (w := wr.drew) hgr hlt3 hne ⟨e0, f0⟩))
              all_goals
                have p3 : Hid (Blk w' (w.heap.size + 1) 53 (wayCells kd v [] [] [])) := Blk.grown (w := wr.drew) C3.out hgr hne
                have D1 : Hid (Below w.heap.size w (w'.setCell ⟨w.heap.size + 1, 1, none⟩ (.slice (some ⟨g', 0, none⟩) (j + 1) cap'))) := (below_grown (B := w.heap.size) (w := wr.drew) C1.out.drew o1.out hgr (by omega) C1.out.size).setCell (by simp) _
                have D2 : Hid (Blk (w'.setCell ⟨w.heap.size + 1, 1, none⟩ (.slice (some ⟨g', 0, none⟩) (j + 1) cap')) w.heap.size 53 zeroWay) := (Blk.grown (w := wr.drew) C2.out hgr (grown_row C4.out _ (by omega))).set_other _ _ (by simp)
                have D3 : Hid (Blk (w'.setCell ⟨w.heap.size + 1, 1, none⟩ (.slice (some ⟨g', 0, none⟩) (j + 1) cap')) (w.heap.size + 1) 53 (wayCells kd (.slice (some ⟨g', 0, none⟩) (j + 1) cap') [] [] [])) := p3.out.set_same 1 _
                have D4 : Hid (Own (w'.setCell ⟨w.heap.size + 1, 1, none⟩ (.slice (some ⟨g', 0, none⟩) (j + 1) cap')) (w.heap.size + 2) 9 (.slice (some ⟨g', 0, none⟩) (j + 1) cap') (j + 1) ((S ++ [(L.drop at_).take k]).map fun x => .string ⟨x.toArray⟩)) := by
                  have hq := hown.kept (w' := w'.setCell ⟨w.heap.size + 1, 1, none⟩ (.slice (some ⟨g', 0, none⟩) (j + 1) cap')) fun g hg => Below.heap_setCell _ _ _ _ (by have := (hown.lt g hg).1; simp only; omega)
                  simp only [hxc.out] at hq
                  show Own _ _ _ _ _ _
                  rw [List.map_append]
                  exact hq
                have D5 : Hid (w.heap.size + 2 ≤ (w'.setCell ⟨w.heap.size + 1, 1, none⟩ (.slice (some ⟨g', 0, none⟩) (j + 1) cap')).heap.size) := by show _ ≤ _; rw [size_setCell]; exact Nat.le_trans C5.out hgr.size
                clear p3 e1 e2 hown hgr C1 C2 C3 C4 C5 e0 f0 o1 hne hlt3 hnew
                generalize w'.setCell ⟨w.heap.size + 1, 1, none⟩ (.slice (some ⟨g', 0, none⟩) (j + 1) cap') = W at *
                by_cases hsame : s.extract at_ (at_ + k) = ⟨(List.take k (sha [0])).toArray⟩
                · have hp : Hid (parse k I L = none) := parse_sibs (by
                    have hl : (L.drop at_).take k = dg k [0] := by
                      have := congrArg (fun b => b.data.toList) (hxc.out.symm.trans hsame)
                      simpa [dg] using this
                    have := sibs_none (sibs_fail C0.out Hbv.out (by rw [hl]; simp)) (d - (j + 1))
                    rw [show j + 1 + (d - (j + 1)) = d from by omega] at this
                    rw [Hdd.out]; exact this)
                  go_wp2_with (refine wpList_store_row rfl 53 _ _ rfl w.heap.size zeroWay rfl rfl _ _ D2.out (by kernel_rfl) rfl (by kernel_rfl) ?_)
                  exact bodyPost_ret (results_row_tmp Tryd.results28 _ _ w.heap.size _ _ _ _ rfl (D2.out.row_same _) Tryd.underlying53 rfl (by kernel_rfl) _ rfl) rfl (fail_post hp.out (below_setRow D1.out (Nat.le_refl _) _))
                · have hl : Hid ((L.drop at_).take k ≠ dg k [0]) := fun h => hsame (by rw [hxc.out, h]; rfl)
                  have hsl : ((s.extract at_ (at_ + k)).toList == List.take k (sha [0])) = false := ne_toList hsame
                  go_wp2
                  go_roundg (8 * n - (j + 1))
                  case measure => omega
                  case rel =>
                    go_light
                    refine ⟨j + 1, at_ + k, S ++ [(L.drop at_).take k], _, by omega, by go_num, by go_num, by rw [hmin'.out]; exact sibs_step1 C0.out Hbv.out (by rw [hLs.out]; omega) hl.out, fun i h1 h2 => ?_, D1.out, D2.out, D3.out, by rw [hmin'.out]; exact D4.out, D5.out⟩
                    rw [Hdd.out] at h1; omega
        · have hmin : Hid (min j d = d) := by show _ = _; omega
          have hmin' : Hid (min (j + 1) d = d) := by show _ = _; omega
          rw [hmin.out] at C0 C4
          rcases hbn with rfl | rfl
          · go_wp2
            go_roundg (8 * n - (j + 1))
            case measure => omega
            case rel =>
              go_light
              refine ⟨j + 1, at_, S, v, by omega, by go_num, rfl, by rw [hmin'.out]; exact C0.out, fun i h1 h2 => ?_, C1.out, C2.out, C3.out, by rw [hmin'.out]; exact C4.out, C5.out⟩
              by_cases hij : i = j
              · rw [hij]; exact Hbv.out
              · exact C00.out i h1 (by omega)
          · have hp : Hid (parse k I L = none) := parse_dirty j (by rw [Hdd.out]; omega) (by rw [Hnn.out]; omega) Hbv.out
            go_wp2_with (refine wpList_store_row rfl 53 _ _ rfl w.heap.size zeroWay rfl rfl _ _ C2.out (by kernel_rfl) rfl (by kernel_rfl) ?_)
            exact bodyPost_ret (results_row_tmp Tryd.results28 _ _ w.heap.size _ _ _ _ rfl (C2.out.row_same _) Tryd.underlying53 rfl (by kernel_rfl) _ rfl) rfl (fail_post hp.out (below_setRow C1.out (Nat.le_refl _) _))
      · obtain rfl : j = 8 * n := by omega
        have hmin : Hid (min (8 * n) d = d) := by show _ = _; omega
        rw [hmin.out] at C0 C4
        obtain ⟨q1, q2, q3⟩ := sibs_at (by rw [Hnn.out, hLs.out]; exact hsn) C0.out
        rw [hLs.out] at q2
        have hP : Hid (parse k I L = endOf k I L S (L.drop at_)) := parse_whole (by rw [hLs.out]; exact h3) (by rw [Hkd.out]; exact hk) (by rw [Hdd.out]; exact h256) (by rw [Hnn.out, hLs.out]; exact hsn) (by rw [Hnn.out]; exact C00.out) (by rw [Hdd.out]; exact C0.out)
        have i1 : (0 : Int) ≤ (at_ : Int) := Int.natCast_nonneg _
        have i3 : (at_ : Int) ≤ (s.size : Int) := by omega
        have e0 : wr.cell? ⟨w.heap.size + 1, 0, none⟩ = some (.int .i64 (kd : Int)) := by rw [C3.out.cell]; rfl
        have hrs : Hid (s.extract at_ s.size = ⟨(L.drop at_).toArray⟩) := by
          show _ = _
          rw [← HL.out]
          apply ByteArray.ext
          apply Array.toList_inj.1
          simp
          rw [List.take_of_length_le (by simp)]
        have hRl : Hid ((L.drop at_).length = s.size - at_) := by show _ = _; rw [List.length_drop, hLs.out]
        generalize hR : L.drop at_ = R at *
        clear hR
        obtain hk0 | hk1' | hk2' : kd = 0 ∨ kd = 1 ∨ kd = 2 := by omega
        · subst hk0
          go_wp2_with (first
            | refine wpList_load_row rfl 53 _ rfl (w.heap.size + 1) rfl _ _ _ _ C3.out Tryd.underlying53 rfl (by kernel_rfl) ?_
            | refine wpList_store_row rfl 53 _ _ rfl w.heap.size (wayCells _ _ _ _ _) rfl rfl _ _ C2.out (by kernel_rfl) rfl (way_one C4.out) ?_)
          refine bodyPost_ret (results_row_tmp Tryd.results28 _ _ w.heap.size _ _ _ _ rfl (C2.out.row_same _) Tryd.underlying53 rfl (by kernel_rfl) _ rfl) rfl ?_
          show ReadPost k I L w (.returned (.tuple #[.agg (wayCells 0 v [] [] []), .bool (s.extract at_ s.size).toList.isEmpty])) _
          rw [hrs.out, ByteArray.toList_mk]
          refine read_done hP.out q1 (below_setRow C1.out (Nat.le_refl _) _) (C4.out.setRow _ _ (by omega)) ?_
          rw [endOf, Hkd.out, if_pos rfl]
          cases R <;> rfl
        · subst hk1'
          have e2 : wr.cell? ⟨w.heap.size + 1, 2, none⟩ = some (.string ⟨#[]⟩) := by rw [C3.out.cell]; rfl
          have f2 : wr.frozen? ⟨w.heap.size + 1, 2, none⟩ = false := C3.out.frozen 2
          have D3 : Hid (Blk (wr.setCell ⟨w.heap.size + 1, 2, none⟩ (.string (s.extract at_ s.size))) (w.heap.size + 1) 53 (wayCells 1 v R [] [])) := by
            have := C3.out.set_same 2 (.string (s.extract at_ s.size))
            rw [hrs.out] at this ⊢
            exact this
          have D2 : Hid (Blk (wr.setCell ⟨w.heap.size + 1, 2, none⟩ (.string (s.extract at_ s.size))) w.heap.size 53 zeroWay) := C2.out.set_other _ _ (by simp)
          have D4 : Hid (Own (wr.setCell ⟨w.heap.size + 1, 2, none⟩ (.string (s.extract at_ s.size))) (w.heap.size + 2) 9 v d (S.map fun x => .string ⟨x.toArray⟩)) := C4.out.kept fun g hg => Below.heap_setCell _ _ _ _ (by have := (C4.out.lt g hg).1; simp only; omega)
          go_wp2_with (first
            | refine wpList_load_row rfl 53 _ rfl (w.heap.size + 1) rfl _ _ _ _ D3.out Tryd.underlying53 rfl (by kernel_rfl) ?_
            | refine wpList_store_row rfl 53 _ _ rfl w.heap.size (wayCells _ _ _ _ _) rfl rfl _ _ D2.out (by kernel_rfl) rfl (way_one C4.out) ?_)
          refine bodyPost_ret (results_row_tmp Tryd.results28 _ _ w.heap.size _ _ _ _ rfl (D2.out.row_same _) Tryd.underlying53 rfl (by kernel_rfl) _ rfl) rfl ?_
          show ReadPost k I L w (.returned (.tuple #[.agg (wayCells 1 v R [] []), .bool (decide (((s.size - at_ : Nat) : Int) ≤ 100))])) _
          refine read_done hP.out q1 (below_setRow (C1.out.setCell (by simp) _) (Nat.le_refl _) _) (D4.out.setRow _ _ (by omega)) ?_
          rw [endOf, Hkd.out, if_neg (by decide), if_pos rfl]
          by_cases h100 : R.length ≤ 100
          · rw [if_pos h100, if_pos (decide_eq_true (by rw [hRl.out] at h100; omega))]
          · rw [if_neg h100, if_neg (by rw [decide_eq_true_eq]; rw [hRl.out] at h100; omega)]
        · subst hk2'
          by_cases hlen : s.size - at_ = 32 + k
          · have hO : Hid ((s.extract at_ s.size).extract 0 32 = ⟨(R.take 32).toArray⟩) := by
              show _ = _
              rw [hrs.out]
              apply ByteArray.ext
              apply Array.toList_inj.1
              simp
            have hD : Hid ((s.extract at_ s.size).extract 32 (32 + k) = ⟨(R.drop 32).toArray⟩) := by
              show _ = _
              rw [hrs.out]
              apply ByteArray.ext
              apply Array.toList_inj.1
              have := hRl.out
              simp
              rw [List.take_of_length_le (by simp; omega)]
            have hbq : Hid ((((s.extract at_ s.size).extract 0 32).toList == idx.toList) = decide (R.take 32 = I)) := by
              show _ = _
              rw [hO.out, ByteArray.toList_mk, ByteArray.toList_eq, HI.out]
              by_cases h : R.take 32 = I <;> simp [h]
            by_cases hsame : R.take 32 = I
            · have hp : Hid (parse k I L = none) := by
                show _ = _
                rw [hP.out, endOf, Hkd.out, if_neg (by decide), if_neg (by decide), if_neg (fun h => h.2.1 hsame)]
              have hq : (((s.extract at_ s.size).extract 0 32).toList == idx.toList) = true := hbq.out.trans (decide_eq_true hsame)
              go_wp2_with (refine wpList_store_row rfl 53 _ _ rfl w.heap.size zeroWay rfl rfl _ _ C2.out (by kernel_rfl) rfl (by kernel_rfl) ?_)
              exact bodyPost_ret (results_row_tmp Tryd.results28 _ _ w.heap.size _ _ _ _ rfl (C2.out.row_same _) Tryd.underlying53 rfl (by kernel_rfl) _ rfl) rfl (fail_post hp.out (below_setRow C1.out (Nat.le_refl _) _))
            · have hq : (((s.extract at_ s.size).extract 0 32).toList == idx.toList) = false := hbq.out.trans (decide_eq_false hsame)
              have e3 : wr.cell? ⟨w.heap.size + 1, 3, none⟩ = some (.string ⟨#[]⟩) := by rw [C3.out.cell]; rfl
              have f3 : wr.frozen? ⟨w.heap.size + 1, 3, none⟩ = false := C3.out.frozen 3
              have e4 : wr.cell? ⟨w.heap.size + 1, 4, none⟩ = some (.string ⟨#[]⟩) := by rw [C3.out.cell]; rfl
              have f4 : wr.frozen? ⟨w.heap.size + 1, 4, none⟩ = false := C3.out.frozen 4
              have D3' : Hid (Blk (wr.setCell ⟨w.heap.size + 1, 3, none⟩ (.string ((s.extract at_ s.size).extract 0 32))) (w.heap.size + 1) 53 (wayCells 2 v [] (R.take 32) [])) := by
                have := C3.out.set_same 3 (.string ((s.extract at_ s.size).extract 0 32))
                rw [hO.out] at this ⊢
                exact this
              have e5 : (wr.setCell ⟨w.heap.size + 1, 3, none⟩ (.string ((s.extract at_ s.size).extract 0 32))).cell? ⟨w.heap.size + 1, 4, none⟩ = some (.string ⟨#[]⟩) := by rw [D3'.out.cell]; rfl
              have f5 : (wr.setCell ⟨w.heap.size + 1, 3, none⟩ (.string ((s.extract at_ s.size).extract 0 32))).frozen? ⟨w.heap.size + 1, 4, none⟩ = false := D3'.out.frozen 4
              have D4 : Hid (Own ((wr.setCell ⟨w.heap.size + 1, 3, none⟩ (.string ((s.extract at_ s.size).extract 0 32))).setCell ⟨w.heap.size + 1, 4, none⟩ (.string ((s.extract at_ s.size).extract 32 (32 + k)))) (w.heap.size + 2) 9 v d (S.map fun x => .string ⟨x.toArray⟩)) :=
                (C4.out.kept fun g hg => Below.heap_setCell _ _ _ _ (by have := (C4.out.lt g hg).1; simp only; omega)).kept fun g hg => Below.heap_setCell _ _ _ _ (by have := (C4.out.lt g hg).1; simp only; omega)
              have D3 : Hid (Blk ((wr.setCell ⟨w.heap.size + 1, 3, none⟩ (.string ((s.extract at_ s.size).extract 0 32))).setCell ⟨w.heap.size + 1, 4, none⟩ (.string ((s.extract at_ s.size).extract 32 (32 + k)))) (w.heap.size + 1) 53 (wayCells 2 v [] (R.take 32) (R.drop 32))) := by
                have := D3'.out.set_same 4 (.string ((s.extract at_ s.size).extract 32 (32 + k)))
                rw [hD.out] at this ⊢
                exact this
              have D2 : Hid (Blk ((wr.setCell ⟨w.heap.size + 1, 3, none⟩ (.string ((s.extract at_ s.size).extract 0 32))).setCell ⟨w.heap.size + 1, 4, none⟩ (.string ((s.extract at_ s.size).extract 32 (32 + k)))) w.heap.size 53 zeroWay) := (C2.out.set_other _ _ (by simp)).set_other _ _ (by simp)
              have D1 : Hid (Below w.heap.size w ((wr.setCell ⟨w.heap.size + 1, 3, none⟩ (.string ((s.extract at_ s.size).extract 0 32))).setCell ⟨w.heap.size + 1, 4, none⟩ (.string ((s.extract at_ s.size).extract 32 (32 + k))))) := (C1.out.setCell (by simp) _).setCell (by simp) _
              have Hne : Hid (R.take 32 ≠ I) := hsame
              clear hbq hsame
              go_wp2
              clear hq e3 f3 e4 f4 D3' e5 f5 e0 C1 C2 C3 C4 C5
              generalize (wr.setCell ⟨w.heap.size + 1, 3, none⟩ (.string ((s.extract at_ s.size).extract 0 32))).setCell ⟨w.heap.size + 1, 4, none⟩ (.string ((s.extract at_ s.size).extract 32 (32 + k))) = W at *
              have h32 : (R.take 32).length = 32 := by have := hRl.out; rw [List.length_take]; omega
              have H32 : Hid (((⟨(R.take 32).toArray⟩ : ByteArray)).size = 32) := by show _ = _; simpa [ByteArray.size] using h32
              go_loopg [16] d (fun q i wr => ∃ j : Nat, j + q = d ∧ i = .int .i64 (j : Int) ∧ sameBits I (R.take 32) j ∧ Below w.heap.size w wr ∧ Blk wr w.heap.size 53 zeroWay ∧ Blk wr (w.heap.size + 1) 53 (wayCells 2 v [] (R.take 32) (R.drop 32)) ∧ Own wr (w.heap.size + 2) 9 v d (S.map fun x => .string ⟨x.toArray⟩))
              case atStart => exact ⟨0, by omega, rfl, fun i h => by omega, D1.out, D2.out, D3.out, D4.out⟩
              case round =>
                obtain ⟨j, hj, rfl, c0, c1, c2, c3, c4⟩ := hrel
                clear D1 D2 D3 D4
                have C0' : Hid (sameBits I (R.take 32) j) := c0
                have C1 : Hid (Below w.heap.size w wr) := c1
                have C2 : Hid (Blk wr w.heap.size 53 zeroWay) := c2
                have C3 : Hid (Blk wr (w.heap.size + 1) 53 (wayCells 2 v [] (R.take 32) (R.drop 32))) := c3
                have C4 : Hid (Own wr (w.heap.size + 2) 9 v d (S.map fun x => .string ⟨x.toArray⟩)) := c4
                clear c0 c1 c2 c3 c4
                obtain ⟨ob, hob⟩ : ∃ ob : ByteArray, Hid (ob = ⟨(R.take 32).toArray⟩) := ⟨_, rfl⟩
                have e3 : wr.cell? ⟨w.heap.size + 1, 3, none⟩ = some (.string ob) := by rw [C3.out.cell, hob.out]; rfl
                by_cases hlt : j < d
                · obtain ⟨f, hf⟩ : ∃ f : ByteArray → Nat, Hid (∀ o, f o = bitN o.data.toList j) := ⟨_, fun _ => rfl⟩
                  have HB : Hid (∀ (o : ByteArray) (W : World), o.size = 32 → Calls Tryd.prog 44 #[.string o, .int .i64 j] W fun e w' => e = .returned (.int .i64 (f o : Nat)) ∧ w' = W) := fun o W ho => by
                    rw [hf.out]
                    exact bit_any o j W (by rw [ho]; omega) (by rw [ho]; omega) (by omega)
                  have ho32 : ob.size = 32 := by rw [hob.out]; exact H32.out
                  have Hx : Hid (bitN I j = f idx) := by show _ = _; rw [hf.out, HI.out]
                  have Hy : Hid (bitN (R.take 32) j = f ob) := by show _ = _; rw [hf.out, hob.out]
                  clear hf
                  go_wp2
                  go_quiet ((exact Calls.quiet_of_same (HB.out _ _ (by assumption))))
                  have D1 : Hid (Below w.heap.size w (wr.drewN nq)) := below_drewN C1.out nq
                  have D2 : Hid (Blk (wr.drewN nq) w.heap.size 53 zeroWay) := C2.out.drewN nq
                  have D3 : Hid (Blk (wr.drewN nq) (w.heap.size + 1) 53 (wayCells 2 v [] (R.take 32) (R.drop 32))) := C3.out.drewN nq
                  have D4 : Hid (Own (wr.drewN nq) (w.heap.size + 2) 9 v d (S.map fun x => .string ⟨x.toArray⟩)) := C4.out.kept fun _ _ => rfl
                  clear C1 C2 C3 C4 HB e3
                  generalize wr.drewN nq = W at *
                  generalize f idx = x at *
                  generalize f ob = y at *
                  by_cases hxy : x = y
                  · subst hxy
                    go_wp2
                    go_roundg (d - (j + 1))
                    case measure => omega
                    case rel =>
                      go_light
                      refine ⟨j + 1, by omega, by go_num, fun i h => ?_, D1.out, D2.out, D3.out, D4.out⟩
                      by_cases hij : i = j
                      · rw [hij, Hx.out, Hy.out]
                      · exact C0'.out i (by omega)
                  · have hp : Hid (parse k I L = none) := by
                      show _ = _
                      rw [hP.out, endOf, Hkd.out, if_neg (by decide), if_neg (by decide), if_neg]
                      rw [same_all, Hdd.out]
                      intro h
                      have := h.2.2 j hlt
                      rw [Hx.out, Hy.out] at this
                      exact hxy this
                    go_wp2_with (refine wpList_store_row rfl 53 _ _ rfl w.heap.size zeroWay rfl rfl _ _ D2.out (by kernel_rfl) rfl (by kernel_rfl) ?_)
                    exact bodyPost_ret (results_row_tmp Tryd.results28 _ _ w.heap.size _ _ _ _ rfl (D2.out.row_same _) Tryd.underlying53 rfl (by kernel_rfl) _ rfl) rfl (fail_post hp.out (below_setRow D1.out (Nat.le_refl _) _))
                · obtain rfl : j = d := by omega
                  go_wp2_with (first
                    | refine wpList_load_row rfl 53 _ rfl (w.heap.size + 1) rfl _ _ _ _ C3.out Tryd.underlying53 rfl (by kernel_rfl) ?_
                    | refine wpList_store_row rfl 53 _ _ rfl w.heap.size (wayCells _ _ _ _ _) rfl rfl _ _ C2.out (by kernel_rfl) rfl (way_one C4.out) ?_)
                  refine bodyPost_ret (results_row_tmp Tryd.results28 _ _ w.heap.size _ _ _ _ rfl (C2.out.row_same _) Tryd.underlying53 rfl (by kernel_rfl) _ rfl) rfl ?_
                  show ReadPost k I L w (.returned (.tuple #[.agg (wayCells 2 v [] (R.take 32) (R.drop 32)), .bool true])) _
                  refine read_done hP.out q1 (below_setRow C1.out (Nat.le_refl _) _) (C4.out.setRow _ _ (by omega)) ?_
                  rw [endOf, Hkd.out, if_neg (by decide), if_neg (by decide), if_pos ⟨by rw [hRl.out]; exact hlen, Hne.out, by rw [same_all, Hdd.out]; exact C0'.out⟩]
                  rfl
          · have hp : Hid (parse k I L = none) := by
              show _ = _
              rw [hP.out, endOf, Hkd.out, if_neg (by decide), if_neg (by decide), if_neg (by rw [hRl.out]; exact fun h => hlen h.1)]
            go_wp2_with (refine wpList_store_row rfl 53 _ _ rfl w.heap.size zeroWay rfl rfl _ _ C2.out (by kernel_rfl) rfl (by kernel_rfl) ?_)
            exact bodyPost_ret (results_row_tmp Tryd.results28 _ _ w.heap.size _ _ _ _ rfl (C2.out.row_same _) Tryd.underlying53 rfl (by kernel_rfl) _ rfl) rfl (fail_post hp.out (below_setRow C1.out (Nat.le_refl _) _))

theorem read_any (k : Nat) (idx s : ByteArray) (w : World) (hs : s.size ≤ 140737488351232) (hk1 : 1 ≤ k) (hk2 : k ≤ 32) (hi : idx.size = 32) :
    Calls Tryd.prog 28 #[.int .i64 k, .string idx, .string s] w (ReadPost k idx.data.toList s.data.toList w) := by
  by_cases h : s.size < 3
  · exact read_head1 k idx s w h
  · by_cases hk : 2 < kindOf s.data.toList
    · exact read_head2 k idx s w (by omega) hk hs
    · exact read_rest k idx s w (by omega) (by omega) hs hk1 hk2 hi
end Go.Proofs.YtghpcgagijhlaaaDoor
