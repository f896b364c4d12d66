/- Contracts of package sha: the digest of a state; the calls. -/
import Derived.Test.YtnpidcehioljaaaDoorShaD
import Derived.Test.YtnpidcehioljaaaDoorBlkB
namespace Go.Proofs.YtnpidcehioljaaaDoor.Sha
open Go Go.RowKit Kit

theorem arr8u : Tryd.prog.underlying 53 = some (.array 8 52) := by kernel_rfl
theorem arr32b : Tryd.prog.underlying 34 = some (.array 32 5) := by kernel_rfl

/-- The bytes so far. -/
def dig (s : St) (k : Nat) : List UInt8 := (digest s).take k ++ List.replicate (32 - k) 0
theorem dig_set (s : St) (k : Nat) (h : k < 32) : (dig s k).set k (UInt8.ofNat ((s.list.getD (k / 4) 0).toNat / 2 ^ (24 - 8 * (k % 4)))) = dig s (k + 1) := by
  have hl := digest_length s
  have e : (digest s)[k]'(by omega) = UInt8.ofNat ((s.list.getD (k / 4) 0).toNat / 2 ^ (24 - 8 * (k % 4))) := by simp [digest]
  rw [← e]
  unfold dig
  have e2 : (digest s).take (k + 1) = (digest s).take k ++ [(digest s)[k]'(by omega)] := List.take_succ_eq_append_getElem (by omega)
  have e3 : ((digest s).take k).length = k := by simp; omega
  rw [e2, List.set_append_right _ _ (by omega), e3, Nat.sub_self, show 32 - k = 32 - (k + 1) + 1 by omega, List.replicate_succ, List.append_assoc]
  rfl
theorem dig_end (s : St) : dig s 32 = digest s := by
  unfold dig; rw [List.take_of_length_le (by rw [digest_length]; omega)]; simp
theorem cw_byte (x : UInt32) (k : Nat) : cw x / 2 ^ k % 256 = ((x.toNat / 2 ^ k : Nat) : Int) % 256 := by simp [cw]

set_option maxHeartbeats 1000000 in
set_option maxRecDepth 100000 in
theorem digest_any (s : St) (w : World) :
    Calls Tryd.prog 34 #[.agg (uvs s.list).toArray] w fun e w' => e = .returned (.agg (bvs (digest s)).toArray) ∧ Kp nob w w' := by
  go_enter Tryd.func34, Tryd.ntmps34
  go_wp2
  go_loopw [5] (fun vi wr => ∃ k : Nat, k ≤ 32 ∧ vi = .int .i64 k ∧ Blk wr w.heap.size 53 (uvs s.list) ∧ (∃ z, z.length = 32 ∧ Blk wr (w.heap.size + 1) 34 z) ∧ Blk wr (w.heap.size + 2) 34 (bvs (dig s k)) ∧ Kp nob w wr)
    (fun vi _ => 32 - (intOf vi).toNat)
  case atStart => exact ⟨0, by omega, rfl, ((Blk.new' rfl rfl).alloc _).alloc _, ⟨_, rfl, (Blk.new' (by simp) rfl).alloc _⟩, Blk.new' (by simp) rfl, (((Kp.refl _ _).alloc _).alloc _).alloc _⟩
  case round =>
    obtain ⟨k, hk, rfl, h1, ⟨z, hz, h2⟩, h3, hkp⟩ := hrel
    have H1 := Lib.hid h1; have H2 := Lib.hid h2; have H3 := Lib.hid h3; have HZ := Lib.hid hz
    clear h1 h2 h3 hz
    by_cases hlt : k < 32
    · obtain ⟨X, hX⟩ : ∃ X, X = s.list.getD (k / 4) 0 := ⟨_, rfl⟩
      have hc : wr.cell? ⟨w.heap.size, k / 4, none⟩ = some (.int .u32 (cw X)) := by
        have h8 : s.list.length = 8 := rfl
        rw [H1.out.cell, uvs, List.getElem?_map, List.getElem?_eq_getElem (by omega), hX, List.getD, List.getElem?_eq_getElem (by omega)]; rfl
      obtain ⟨y, hy⟩ : ∃ y, wr.cell? ⟨w.heap.size + 2, k, none⟩ = some (.int .u8 y) := ⟨_, by
        rw [H3.out.cell, bvs_get (show k < (dig s k).length by simp [dig, digest_length]; omega)]; rfl⟩
      have hf : wr.frozen? ⟨w.heap.size + 2, k, none⟩ = false := H3.out.frozen _
      obtain ⟨j, hj⟩ : ∃ j, j = 24 - 8 * (k % 4) := ⟨_, rfl⟩
      have hj1 : (24 : Int) - 8 * ((k : Int) % 4) = (j : Int) := by omega
      have hj2 : j ≤ 32 := by omega
      have HX := Lib.hid hX; have HJ := Lib.hid hj
      clear hX hj
      go_wp2
      go_roundw
      case rel =>
        rw [cw_byte, ← bv_ofNat]
        refine ⟨k + 1, by omega, by go_num, H1.out.far (by simp; omega) _, ⟨z, HZ.out, H2.out.far (by simp) _⟩, ?_, hkp.setCell (p := ⟨w.heap.size + 1 + 1, k, none⟩) (.inr (by simp; omega)) _⟩
        have := H3.out.set_ k (bv (UInt8.ofNat (X.toNat / 2 ^ j)))
        rw [bvs, ← List.map_set, HX.out, HJ.out, dig_set s k hlt, ← HX.out, ← HJ.out] at this
        exact this
      case measure => simp [intOf]; omega
    · obtain rfl : k = 32 := by omega
      go_wp2_with (first
        | (refine wpList_load_blk rfl 34 (.tmp 3) rfl _ _ _ H3.out rfl _ arr32b rfl (by kernel_rfl) ?_)
        | (refine wpList_store_blk rfl 34 (.tmp 2) (.tmp 21) rfl _ _ z (bvs (dig s 32)) H2.out rfl rfl (by rw [HZ.out]; rfl) (by kernel_rfl) (bvs_one _) ?_; intro w2 hB2 k2 z2))
      refine bodyPost_ret (results_cell_row rfl _ _ (w.heap.size + 1) _ _ _ _ rfl hB2 arr32b rfl (by kernel_rfl)) rfl ⟨by rw [dig_end], hkp.since k2 (fun i e => by cases e; omega)⟩

theorem hash_under : (Tryd.prog.info? 67).map (·.size) = some 73 := by kernel_rfl
set_option maxHeartbeats 1000000 in
set_option maxRecDepth 100000 in
theorem new_any (w : World) (ht : Tabs w) :
    Calls Tryd.prog 26 #[] w fun e w' => ∃ b, e = .returned (.pointer (some ⟨b, 0, none⟩)) ∧ Has w' b [] ∧ Kp nob w w' ∧ w.heap.size ≤ b := by
  go_enter Tryd.func26, Tryd.ntmps26
  go_wp2_with (first
    | (refine wpList_load_mid rfl 53 (.global 0) rfl 0 0 rfl (uvs H0.list) _ ht.start arr8u rfl (by kernel_rfl) ?_)
    | (refine wpList_built rfl 67 _ rfl (.agg (uvs H0.list ++ bvs (List.replicate 64 0) ++ [Value.int .i64 (0 : Nat)]).toArray) (by kernel_rfl) ?_))
  go_ret
  have hB : Blk (w.alloc (.cells (uvs H0.list ++ (bvs (List.replicate 64 0) ++ [Value.int .i64 0])).toArray 67)) w.heap.size 67 (uvs H0.list ++ bvs (List.replicate 64 0) ++ [Value.int .i64 (0 : Nat)]) := Blk.new' rfl (by simp)
  exact ⟨_, rfl, ⟨H0, List.replicate 64 0, .none _ (by simp), by simp, hB⟩, (Kp.refl _ _).alloc _, Nat.le_refl _⟩

/-- The elements of a slice of slices of bytes. -/
structure Pc where
  A : Option Addr
  n : Nat
  c : Nat
  l : List UInt8
def Pc.v (p : Pc) : Value := .slice p.A p.n p.c
/-- Each reads its bytes, and has no block of F. -/
def PcsOk (w : World) (F : Nat → Prop) (ps : List Pc) : Prop := ∀ p ∈ ps, p.l.length = p.n ∧ Row w p.A (bvs p.l) ∧ (p.l = [] ∨ ∀ k, ab p.A = some k → ¬ F k) ∧ p.n ≤ p.c ∧ p.c ≤ maxLen
theorem PcsOk.keep {F G : Nat → Prop} {w w' : World} {ps : List Pc} (h : PcsOk w F ps) (hk : Kp G w w') (hG : ∀ k, G k → F k) : PcsOk w' F ps := fun p hp => by
  obtain ⟨h1, h2, h3, h4, h5⟩ := h p hp
  refine ⟨h1, ?_, h3, h4, h5⟩
  rcases h3 with h3 | h3
  · rw [h3]; exact Row.nil _ _
  · exact h2.keep hk (fun k e e' => h3 k e (hG k e'))
theorem PcsOk.mono {F G : Nat → Prop} {w : World} {ps : List Pc} (h : PcsOk w F ps) (hG : ∀ k, G k → F k) : PcsOk w G ps := fun p hp => by
  obtain ⟨h1, h2, h3, h4, h5⟩ := h p hp
  exact ⟨h1, h2, h3.imp_right (fun h k e e' => h k e (hG k e')), h4, h5⟩
/-- What reads nothing new has no new block. -/
theorem PcsOk.old {w : World} {ps : List Pc} (h : PcsOk w nob ps) (F : Nat → Prop) (hF : ∀ k, F k → w.heap.size ≤ k) : PcsOk w F ps := fun p hp => by
  obtain ⟨h1, h2, h3, h4, h5⟩ := h p hp
  refine ⟨h1, h2, ?_, h4, h5⟩
  by_cases hl : p.l = []
  · exact .inl hl
  · exact .inr (fun k e e' => by have := h2.lt (by simpa [bvs] using hl) k e; have := hF k e'; omega)
theorem PcsOk.keep0 {w w' : World} {ps : List Pc} (h : PcsOk w nob ps) (hk : Kp nob w w') : PcsOk w' nob ps := h.keep hk (fun _ e => e)
def catP (ps : List Pc) : List UInt8 := ps.flatMap (·.l)
theorem catP_snoc (ps : List Pc) (k : Nat) (h : k < ps.length) : catP (ps.take (k + 1)) = catP (ps.take k) ++ ps[k].l := by
  unfold catP
  rw [List.take_add_one, List.getElem?_eq_getElem h, List.flatMap_append]; simp only [Option.toList_some, List.flatMap_cons, List.flatMap_nil, List.append_nil]
theorem catP_le (ps : List Pc) (k : Nat) : (catP (ps.take k)).length ≤ (catP ps).length := by
  unfold catP
  conv => rhs; rw [← List.take_append_drop k ps, List.flatMap_append, List.length_append]
  omega

set_option maxHeartbeats 1000000 in
theorem write_any (b : Nat) (l : List UInt8) (A : Option Addr) (m c : Nat) (ps : List Pc) (w : World) (h : Has w b l) (ht : Tabs w) (hb : Far b) (hm : ps.length = m) (hr : Row w A (ps.map Pc.v)) (hA : ps = [] ∨ ∀ k, ab A = some k → k ≠ b) (hp : PcsOk w (oneB b) ps) (hmm : m ≤ 1099511627776) (hl : l.length + (catP ps).length ≤ 1099511627776) :
    Calls Tryd.prog 19 #[.pointer (some ⟨b, 0, none⟩), .slice A m c] w fun e w' => e = .returned (.tuple #[]) ∧ Has w' b (l ++ catP ps) ∧ Kp (oneB b) w w' := by
  go_enter Tryd.func19, Tryd.ntmps19
  go_wp2
  go_loopw [10] (fun i wr => ∃ k : Nat, k ≤ m ∧ i = .int .i64 k ∧ Has wr b (l ++ catP (ps.take k)) ∧ Kp (oneB b) w wr)
    (fun i _ => m - (intOf i).toNat)
  case atStart => exact ⟨0, Nat.zero_le _, rfl, by simpa [catP] using h, Kp.refl _ _⟩
  case round =>
    obtain ⟨k, hk, rfl, hh, hkp⟩ := hrel
    by_cases hlt : k < m
    · obtain ⟨p, hpk⟩ : ∃ p, p = ps[k]'(by omega) := ⟨_, rfl⟩
      replace hA := hA.resolve_left (fun e => by rw [e] at hm; simp at hm; omega)
      obtain ⟨bb, oo, rfl, hbb, hcell⟩ := hr.at_ (i := k) (by simp [hm]; exact hlt)
      have hce : wr.cell? ⟨bb, oo + k, none⟩ = some (.slice p.A p.n p.c) := by rw [hkp.cell (p := ⟨bb, oo + k, none⟩) hbb (fun e => hA bb rfl e), hcell, hpk]; simp [Pc.v]
      obtain ⟨q1, q2, q3, q4, q5⟩ := hp p (by rw [hpk]; exact List.getElem_mem _)
      have q2' : Row wr p.A (bvs p.l) := by
        rcases q3 with e | q3
        · rw [e]; exact Row.nil _ _
        · exact q2.keep hkp q3
      have hT := ht.keep hkp (fun k e => by cases e; exact hb)
      have hsn := catP_snoc ps k (by omega)
      have hle := catP_le ps (k + 1)
      rw [hsn, List.length_append, ← hpk, q1] at hle
      rw [← hpk] at hsn
      have HS := Lib.hid hsn; have HQ := Lib.hid q1
      have hln : (l ++ catP (ps.take k)).length + p.n ≤ 1099511627776 := by rw [List.length_append]; omega
      have HLN := Lib.hid hln
      clear hsn hpk hcell hle hln q1
      go_wp2_with fail
      refine (take_any b _ p.A p.n p.c p.l _ hh hT hb HQ.out q2' (q3.imp_right (fun h k e e' => h k e e')) q4 q5 HLN.out).mono ?_
      rintro e w2 ⟨rfl, h2, k2⟩
      go_wp2
      go_roundw
      case rel => exact ⟨k + 1, by omega, by go_num, by rw [HS.out, ← List.append_assoc]; exact h2, hkp.trans k2 (fun _ e => .inl e)⟩
      case measure => simp [intOf]; omega
    · go_wp2
      go_end0
      obtain rfl : k = m := by omega
      rw [List.take_of_length_le (by omega)] at hh
      exact ⟨rfl, hh, hkp⟩

theorem row_of {P : Program} {t : TypeId} (h : (P.underlying t).any (·.isRow) = true) : ∃ d, P.underlying t = some d ∧ d.isRow = true := by
  cases hq : P.underlying t with
  | none => rw [hq] at h; cases h
  | some d => rw [hq] at h; exact ⟨d, rfl, h⟩
theorem hash_row : ∃ d, Tryd.prog.underlying 67 = some d ∧ d.isRow = true := row_of (by kernel_rfl)
/-- A Hash's cells, and those of none: each a definition of its own, so that the walk leaves it standing. -/
def hcells (s : St) (blk : List UInt8) (n : Nat) : List Value := uvs s.list ++ bvs blk ++ [.int .i64 n]
def zcells : List Value := uvs (List.replicate 8 0) ++ bvs (List.replicate 64 0) ++ [.int .i64 0]
theorem zcells_size : zcells.toArray.size = 73 := rfl
theorem hcells_length (s : St) (blk : List UInt8) (n : Nat) (h : blk.length = 64) : (hcells s blk n).length = 73 := by simp [hcells, St.list, h]
theorem hash_zero : ∀ w, (zeroValue 67).run Tryd.prog w = .ok (.agg zcells.toArray) w := fun _ => by kernel_rfl
theorem hash_cells (s : St) (blk : List UInt8) (n : Nat) : ∀ u ∈ hcells s blk n, u.oneCell' = true := by
  intro u hu
  simp only [hcells, List.mem_append, List.mem_singleton] at hu
  rcases hu with (hu | hu) | rfl
  · exact uvs_one _ u hu
  · exact bvs_one _ u hu
  · rfl

set_option maxHeartbeats 1000000 in
set_option maxRecDepth 100000 in
theorem sum_any (b : Nat) (l : List UInt8) (w : World) (h : Has w b l) (ht : Tabs w) (hl : l.length ≤ 1099511627776) :
    Calls Tryd.prog 28 #[.pointer (some ⟨b, 0, none⟩)] w fun e w' => e = .returned (.agg (bvs (of l)).toArray) ∧ Kp nob w w' := by
  obtain ⟨s, blk, hT, hi⟩ := h
  obtain ⟨d, hst, hrow⟩ := hash_row
  have hz := hash_zero
  have hbl := hi.1
  have hB : Blk w b 67 (hcells s blk l.length) := hi.2
  have HB := Lib.hid hB; have HST := Lib.hid hst; have HBL := Lib.hid hbl; have HRW := Lib.hid hrow
  have hlen := hcells_length s blk l.length hbl
  have HLEN := Lib.hid hlen
  have HF := Lib.hid (of_eq l)
  have HT := Lib.hid hT
  clear hi hst hB hlen hbl hrow hT
  obtain ⟨L, hL⟩ : ∃ L, L = hcells s blk l.length := ⟨_, rfl⟩
  rw [← hL] at HB HLEN
  have h1 : ∀ u ∈ L, u.oneCell' = true := by rw [hL]; exact hash_cells _ _ _
  have H1 := Lib.hid h1; have HL := Lib.hid hL
  clear h1 hL
  go_enter Tryd.func28, Tryd.ntmps28
  go_wp2_with (first
    | (refine wpList_load_blk rfl 67 (.tmp 8) rfl b _ _ (HB.out.alloc _) rfl d HST.out HRW.out (by rw [HLEN.out]; kernel_rfl) ?_)
    | (refine wpList_store_newAt rfl 67 (.tmp 3) (.tmp 9) rfl _ L (w.heap.size + 1) (by simp) rfl rfl (by rw [HLEN.out]; exact zcells_size.symm) (by rw [HLEN.out]; kernel_rfl) H1.out ?_
       intro w2 hB2 k2 z2
       have hR : Hid (∃ z, Blk w2 w.heap.size 34 z ∧ z.length = 32) := Lib.hid ⟨_, (Blk.new' (w := w) rfl rfl).keep k2 (fun e => e), rfl⟩
       have K2 : Kp nob w w2 := ((Kp.refl nob w).alloc _).trans k2 (fun _ e => e.elim)
       have hI2 : Hid (IsH w2 (w.heap.size + 1) s blk l.length) := Lib.hid ⟨HBL.out, by have := hB2; rwa [HL.out] at this⟩
       have T2 := Lib.hid (ht.keep0 K2)
       clear k2 hB2))
  refine (end_any _ s l blk _ hI2.out HT.out T2.out (ht.far (by omega)) hl).mono ?_
  rintro e w3 ⟨rfl, ⟨blk', n', hI3⟩, k3⟩
  have hs3 := Lib.hid hI3.state
  have hR3 : Hid (∃ z, Blk w3 w.heap.size 34 z ∧ z.length = 32) := by
    obtain ⟨z, h1, h2⟩ := hR.out
    exact Lib.hid ⟨z, h1.keep k3 (fun e => by unfold oneB at e; omega), h2⟩
  have K3 : Kp nob w w3 := K2.since k3 (fun i e => by unfold oneB at e; omega)
  clear hI3 hR
  obtain ⟨fin, hfin⟩ : ∃ x, x = run H0 (padded l) ((padded l).length / 64) := ⟨_, rfl⟩
  rw [← hfin] at hs3
  have HFIN := Lib.hid hfin; clear hfin z2
  go_wp2_with (refine wpList_load_mid rfl 53 (.tmp 11) rfl (w.heap.size + 1) 0 rfl (uvs fin.list) _ hs3.out arr8u rfl (by kernel_rfl) ?_)
  refine (digest_any fin _).mono ?_
  rintro e w4 ⟨rfl, k4⟩
  obtain ⟨z, hz1, hz2⟩ := hR3.out
  have hz3 := Lib.hid (hz1.keep k4 (fun e => e)); have hz4 := Lib.hid hz2
  clear hz1 hz2 hR3
  go_wp2_with (refine wpList_store_blk rfl 34 (.tmp 2) (.tmp 13) rfl _ _ z (bvs (digest fin)) hz3.out rfl rfl (by rw [hz4.out, bvs_length, digest_length]) (by rw [bvs_length, digest_length]; kernel_rfl) (bvs_one _) ?_; intro w5 hB5 k5 z5)
  have hsz5 : (Tryd.prog.info? 34).map (·.size) = some (bvs (digest fin)).toArray.size := by
    rw [List.size_toArray, bvs_length, digest_length]; kernel_rfl
  refine bodyPost_ret (results_cell_row rfl _ _ w.heap.size _ _ _ _ rfl hB5 arr32b rfl hsz5) rfl ⟨by rw [HF.out, HFIN.out], (K3.trans k4 (fun _ e => e.elim)).since k5 (fun i e => by unfold oneB at e; omega)⟩

set_option maxHeartbeats 1000000 in
set_option maxRecDepth 100000 in
theorem of_any (A : Option Addr) (m c : Nat) (ps : List Pc) (w : World) (ht : Tabs w) (hm : ps.length = m) (hr : Row w A (ps.map Pc.v)) (hp : PcsOk w nob ps) (hmm : m ≤ 1099511627776) (hl : (catP ps).length ≤ 1099511627776) :
    Calls Tryd.prog 29 #[.slice A m c] w fun e w' => e = .returned (.agg (bvs (of (catP ps))).toArray) ∧ Kp nob w w' := by
  go_enter Tryd.func29, Tryd.ntmps29
  go_wp2_with fail
  have K0 : ∀ o : Obj, Kp nob w (w.alloc o) := fun o => (Kp.refl nob w).alloc o
  refine (new_any _ (ht.keep0 (K0 _))).mono ?_
  rintro e w2 ⟨b, rfl, h2, k2, n2⟩
  have hR : Hid (∃ z, Blk w2 w.heap.size 34 z ∧ z.length = 32) := Lib.hid ⟨_, (Blk.new' (w := w) rfl rfl).keep k2 (fun e => e), rfl⟩
  have K2 : Kp nob w w2 := (K0 _).trans k2 (fun _ e => e.elim)
  have n2' : w.heap.size < b := by simp at n2; omega
  have T2 := ht.keep0 K2
  have f2 := ht.far (Nat.le_of_lt n2')
  have r2 := hr.keep0 K2
  have p2 : PcsOk w2 (oneB b) ps := fun p h => by
    obtain ⟨q1, q2, q3, q4, q5⟩ := (hp.old (oneB b) (fun k e => by unfold oneB at e; omega)) p h
    exact ⟨q1, q2.keep0 K2, q3, q4, q5⟩
  have hA2 : ps = [] ∨ ∀ k, ab A = some k → k ≠ b := by
    by_cases hl : ps = []
    · exact .inl hl
    · exact .inr (fun k e => by have := hr.lt (by simpa using hl) k e; omega)
  clear k2 n2
  go_wp2_with fail
  refine (write_any b [] A m c ps _ h2 T2 f2 hm r2 hA2 p2 hmm (by simpa using hl)).mono ?_
  rintro e w3 ⟨rfl, h3, k3⟩
  have hR3 : Hid (∃ z, Blk w3 w.heap.size 34 z ∧ z.length = 32) := by
    obtain ⟨z, h1, h2⟩ := hR.out
    exact Lib.hid ⟨z, h1.keep k3 (fun e => by unfold oneB at e; omega), h2⟩
  have K3 : Kp nob w w3 := K2.since k3 (fun i e => by unfold oneB at e; omega)
  rw [List.nil_append] at h3
  clear hR
  go_wp2_with fail
  refine (sum_any b _ _ h3 (ht.keep0 K3) hl).mono ?_
  rintro e w4 ⟨rfl, k4⟩
  obtain ⟨z, hz1, hz2⟩ := hR3.out
  have hz3 := Lib.hid (hz1.keep k4 (fun e => e)); have hz4 := Lib.hid hz2
  clear hz1 hz2 hR3
  go_wp2_with (refine wpList_store_blk rfl 34 (.tmp 2) (.tmp 9) rfl _ _ z (bvs (of (catP ps))) hz3.out rfl rfl (by rw [hz4.out, bvs_length, of_length]) (by rw [bvs_length, of_length]; kernel_rfl) (bvs_one _) ?_; intro w5 hB5 k5 z5)
  have hsz5 : (Tryd.prog.info? 34).map (·.size) = some (bvs (of (catP ps))).toArray.size := by
    rw [List.size_toArray, bvs_length, of_length]; kernel_rfl
  refine bodyPost_ret (results_cell_row rfl _ _ w.heap.size _ _ _ _ rfl hB5 arr32b rfl hsz5) rfl ⟨rfl, (K3.trans k4 (fun _ e => e.elim)).since k5 (fun i e => by unfold oneB at e; omega)⟩
end Go.Proofs.YtnpidcehioljaaaDoor.Sha
