/- The document's Get. -/
import Derived.Test.YtadhhnlolnnkhaaRecG
import Derived.Test.YtadhhnlolnnkhaaRecA
import Derived.Test.YtadhhnlolnnkhaaCodeT
namespace Go.Proofs.Ytadhhnlolnnkhaa.Rec
set_option linter.unusedVariables false
set_option linter.unusedSimpArgs false
open Go Go.RowKit Kit

/-- The result's block and the document's reader, both new since w. -/
structure Mw (w : World) (M b : Nat) (s : List UInt8 × Bool) (w2 : World) : Prop where
  z : Blk w2 w.heap.size 23 (rcells zr)
  i : IsM w2 b s
  f : w.heap.size < b
  f2 : b < M
  k : Kp nob w w2
theorem Mw.keep {w w2 w3 : World} {M b : Nat} {s : List UInt8 × Bool} (h : Mw w M b s w2) (k : Kp nob w2 w3) : Mw w M b s w3 := ⟨h.z.keep k (fun e => e), h.i.keep k (fun e => e), h.f, h.f2, h.k.trans k (fun _ e => e.elim)⟩
theorem Mw.far {w w2 w3 : World} {M b : Nat} {s : List UInt8 × Bool} {F : Nat → Prop} (h : Mw w M b s w2) (k : Kp F w2 w3) (hF : ∀ j, F j → j ≠ b ∧ w.heap.size < j) : Mw w M b s w3 :=
  ⟨h.z.keep k (fun e => Nat.lt_irrefl _ (hF _ e).2), h.i.keep k (fun e => (hF b e).1 rfl), h.f, h.f2, h.k.since k (fun i e => Nat.le_of_lt (hF i e).2)⟩
theorem Mw.more {w w2 w3 : World} {M b : Nat} {s s' : List UInt8 × Bool} (h : Mw w M b s w2) (p : MPost w2 b s' w3) : Mw w M b s' w3 := by
  have hb := h.f
  exact ⟨h.z.keep p.2 (fun e => by have e : w.heap.size = b := e; omega), p.1, h.f, h.f2, h.k.since p.2 (fun i e => by have e : i = b := e; omega)⟩
/-- The numbers, one behind the other. -/
def Tm (w : World) (M b : Nat) (s : List UInt8 × Bool) (N : Nat) (p : Nat) (w' : World) : Prop := Mw w M b (st s (min p 4)) w' ∧ N ≤ w'.heap.size ∧ b < N ∧ M ≤ N
theorem Tm.alloc {w : World} {M b : Nat} {s : List UInt8 × Bool} {N p : Nat} {w' : World} (h : Tm w M b s N p w') (o : Obj) : Tm w M b s N p (w'.alloc o) := by
  obtain ⟨h1, h5, h6, h7⟩ := h
  have k := (Kp.refl nob w').alloc o
  exact ⟨h1.keep k, Nat.le_trans h5 k.size, h6, h7⟩
theorem Tm.num {w : World} {M b : Nat} {s : List UInt8 × Bool} {N p : Nat} {w' : World} (h : Tm w M b s N p w') (hp : p < 4) :
    Calls Try.prog 33 #[.pointer (some ⟨b, 0, none⟩)] w' fun e w2 => e = .returned (vv s p) ∧ Tm w M b s N (p + 1) w2 ∧ Kp (oneF b) w' w2 := by
  obtain ⟨h1, h5, h6, h7⟩ := h
  have e1 : min p 4 = p := by omega
  have e2 : min (p + 1) 4 = p + 1 := by omega
  rw [e1] at h1
  refine (mNum b (st s p) w' h1.i).mono ?_
  rintro e w2 ⟨rfl, r⟩
  refine ⟨by rw [vv, if_pos hp], ⟨?_, Nat.le_trans h5 r.2.size, h6, h7⟩, r.2⟩
  rw [e2, st, if_pos hp]
  exact h1.more r
theorem Tm.last {w : World} {M b : Nat} {s : List UInt8 × Bool} {N : Nat} {w' : World} (h : Tm w M b s N 4 w') : Tm w M b s N (4 + 1) w' := h
/-- The record but for its body. -/
def rd0 (x : UInt8) (s : List UInt8 × Bool) : Rec := { rd x s with body := [] }
set_option maxRecDepth 100000 in
theorem build_rec5 (k q i n t : Int) (w : World) : (Instr.build 23 #[(0, .int .i64 k), (1, .int .i64 q), (2, .int .i64 i), (3, .int .i64 n), (4, .int .i64 t)]).run Try.prog w = .ok (.agg #[.int .i64 k, .int .i64 q, .int .i64 i, .int .i64 n, .int .i64 t, .string (str [])]) w := by kernel_rfl

set_option maxHeartbeats 1000000 in
set_option maxRecDepth 100000 in
theorem dGet_nil (w : World) :
    Calls Try.prog 17 #[.string (str [])] w fun e w' => e = .returned (.tuple #[rv zr, .bool false]) ∧ Kp nob w w' := by
  obtain ⟨d, hd1, hd2⟩ := rec_under
  have HB0 := Lib.hid (((Blk.new w 23 (rcells zr))).alloc (.cells #[.string (str []), .bool false] 66))
  have HK0 := Lib.hid (((Kp.refl nob w).alloc (.cells (rcells zr).toArray 23)).alloc (.cells #[.string (str []), .bool false] 66))
  have hM : IsM ((w.alloc (.cells (rcells zr).toArray 23)).alloc (.cells #[.string (str []), .bool false] 66)) (w.heap.size + 1) ([], false) := ⟨by
    have := heap_alloc_new (w.alloc (.cells (rcells zr).toArray 23)) (.cells #[.string (str []), .bool false] 66)
    rwa [show (w.alloc (.cells (rcells zr).toArray 23)).heap.size = w.heap.size + 1 by simp] at this, by simp⟩
  have htk := mTake (w.heap.size + 1) ([], false) 1 _ hM
  rw [show sTake ([], false) 1 = (([], false), bust) from sTake_no _ _ (.inl (by simp))] at htk
  have HT := Lib.hid htk; clear htk hM
  go_enter Try.func17, Try.ntmps17
  go_wp2_with fail
  refine HT.out.mono ?_
  rintro e w1 ⟨rfl, p⟩
  have HZ := Lib.hid (HB0.out.keep p.2 (fun e => by have e : w.heap.size = w.heap.size + 1 := e; omega))
  have HK := Lib.hid (HK0.out.since p.2 (fun i e => by have e : i = w.heap.size + 1 := e; omega))
  clear HB0 HK0 p HT
  go_wp2_with (first
    | (refine wpList_store_blk rfl 23 (.tmp 2) (.tmp 18) rfl _ _ (rcells zr) (rcells zr) HZ.out rfl rfl rfl (rec_size _) (rcells_one _) ?_; intro w3 hB3 k3 z3; have HB3 := Lib.hid hB3; have HK3 := Lib.hid (HK.out.since k3 (fun i e => Nat.le_of_eq e.symm)); clear hB3 k3 z3))
  exact bodyPost_ret (results_rec rfl _ _ w.heap.size _ (rcells zr) d rfl HB3.out hd1 hd2 (rec_size _) _ rfl) rfl ⟨rfl, HK3.out⟩

set_option maxHeartbeats 4000000 in
set_option maxRecDepth 100000 in
theorem dGet_cons (x : UInt8) (l : List UInt8) (w : World) (hl : l.length ≤ 1048576) :
    Calls Try.prog 17 #[.string (str (x :: l))] w fun e w' => e = .returned (.tuple #[rv (gotR (x :: l)), .bool (recGet (x :: l)).isSome]) ∧ Kp nob w w' := by
  obtain ⟨d, hd1, hd2⟩ := rec_under
  have HB0 := Lib.hid (((Blk.new w 23 (rcells zr))).alloc (.cells #[.string (str (x :: l)), .bool false] 66))
  have HK0 := Lib.hid (((Kp.refl nob w).alloc (.cells (rcells zr).toArray 23)).alloc (.cells #[.string (str (x :: l)), .bool false] 66))
  have hM : IsM ((w.alloc (.cells (rcells zr).toArray 23)).alloc (.cells #[.string (str (x :: l)), .bool false] 66)) (w.heap.size + 1) (x :: l, false) := ⟨by
    have := heap_alloc_new (w.alloc (.cells (rcells zr).toArray 23)) (.cells #[.string (str (x :: l)), .bool false] 66)
    rwa [show (w.alloc (.cells (rcells zr).toArray 23)).heap.size = w.heap.size + 1 by simp] at this, by simp; omega⟩
  have G0 : Hid (Mw w (w.heap.size + 2) (w.heap.size + 1) (x :: l, false) ((w.alloc (.cells (rcells zr).toArray 23)).alloc (.cells #[.string (str (x :: l)), .bool false] 66))) := Lib.hid ⟨HB0.out, hM, by omega, by omega, HK0.out⟩
  have htk := mTake (w.heap.size + 1) (x :: l, false) 1 _ hM
  rw [show sTake (x :: l, false) 1 = (([x], true), (l, false)) from sTake_app [x] l 1 rfl] at htk
  have HT := Lib.hid htk; clear htk hM HB0 HK0
  go_enter Try.func17, Try.ntmps17
  go_wp2_with fail
  refine HT.out.mono ?_
  rintro e w2 ⟨rfl, p⟩
  have G3 := Lib.hid (G0.out.more p)
  have HMN := Lib.hid (show w.heap.size + 2 ≤ w2.heap.size by have := p.2.size; simp at this; omega)
  clear G0 p HT
  have hx0 : ∀ hb, ((str [x])[0]'hb) = x := fun _ => rfl
  have hwx : IntKind.i64.wrap (x.toNat : Int) = (x.toNat : Int) := by rw [IntKind.wrap_i64]; have := x.toNat_lt; omega
  go_wp2
  have HT0 : Hid (Tm w (w.heap.size + 2) (w.heap.size + 1) (l, false) w2.drew.heap.size 0 w2.drew) := Lib.hid ⟨G3.out.keep (Kp.refl nob w2).drew, Nat.le_refl _, by have := HMN.out; show _ < w2.heap.size; omega, HMN.out⟩
  refine reg_begin (fun _ : World => True) (by kernel_rfl) trivial (fun _ => ?_)
  generalize w2.drew = wd at *
  obtain ⟨N, hNe⟩ : ∃ N, N = wd.heap.size := ⟨_, rfl⟩
  rw [← hNe] at HT0
  have HNe := Lib.hid hNe
  clear hNe
  refine reg_take (v := .string (str [x])) 0 (some 19) rfl rfl (by kernel_rfl) (by kernel_rfl) (by kernel_rfl) (by rfl) trivial (fun w hw => by go_simp) ?_
  simp only [Act.put, List.setIfInBounds_toArray, List.set_cons_zero, List.set_cons_succ]
  refine reg_take (v := .int .u8 (x.toNat : Int)) 1 (some 20) rfl rfl (by kernel_rfl) (by kernel_rfl) (by kernel_rfl) (by rfl) trivial (fun w hw => by go_simp) ?_
  simp only [Act.put, List.setIfInBounds_toArray, List.set_cons_zero, List.set_cons_succ]
  refine reg_take (v := .int .i64 (x.toNat : Int)) 2 (some 21) rfl rfl (by kernel_rfl) (by kernel_rfl) (by kernel_rfl) (by rfl) trivial (fun w hw => by go_simp) ?_
  simp only [Act.put, List.setIfInBounds_toArray, List.set_cons_zero, List.set_cons_succ]
  refine reg_take (v := .pointer (some ⟨w.heap.size + 1, 0, none⟩)) 3 (some 22) rfl rfl (by kernel_rfl) (by kernel_rfl) (by kernel_rfl) (by rfl) trivial (fun w hw => by go_simp) ?_
  simp only [Act.put, List.setIfInBounds_toArray, List.set_cons_zero, List.set_cons_succ]
  refine reg_take (v := .pointer (some ⟨w.heap.size + 1, 0, none⟩)) 5 (some 24) rfl rfl (by kernel_rfl) (by kernel_rfl) (by kernel_rfl) (by rfl) trivial (fun w hw => by go_simp) ?_
  simp only [Act.put, List.setIfInBounds_toArray, List.set_cons_zero, List.set_cons_succ]
  refine reg_take (v := .pointer (some ⟨w.heap.size + 1, 0, none⟩)) 7 (some 26) rfl rfl (by kernel_rfl) (by kernel_rfl) (by kernel_rfl) (by rfl) trivial (fun w hw => by go_simp) ?_
  simp only [Act.put, List.setIfInBounds_toArray, List.set_cons_zero, List.set_cons_succ]
  refine reg_take (v := .pointer (some ⟨w.heap.size + 1, 0, none⟩)) 9 (some 28) rfl rfl (by kernel_rfl) (by kernel_rfl) (by kernel_rfl) (by rfl) trivial (fun w hw => by go_simp) ?_
  simp only [Act.put, List.setIfInBounds_toArray, List.set_cons_zero, List.set_cons_succ]
  obtain ⟨S5, hS5⟩ : ∃ S5 : Nat → Value, S5 = fun p => if p < 4 then vv (l, false) p else .agg (rcells (rd0 x (l, false))).toArray := ⟨_, rfl⟩
  have HS5 := Lib.hid hS5; clear hS5
  refine reg_chain [4, 6, 8, 10, 11] 12 [(4, some 23), (6, some 25), (8, some 27), (10, some 29), (11, some 30), (12, some 7)] _ _ _ _ 1 14 (Tm w (w.heap.size + 2) (w.heap.size + 1) (l, false) N) S5 N (oneF (w.heap.size + 1)) 23 (rcells zr) rfl rfl rfl (by kernel_rfl) (by kernel_rfl) (by kernel_rfl) (by kernel_rfl) (by kernel_rfl) rfl (by kernel_rfl)
    (fun p w' h => trivial) (fun p w' h => h.2.1) (fun j e => ?hF) (fun p w' o h => h.alloc o) HT0.out ?hcall ?hnew ?hK
  case hF => have e : j = w.heap.size + 1 := e; have := HT0.out.2.2.1; omega
  case hcall =>
    intro p hp o a w' ho e0 ev hT
    match p, hp, ho, ev, hT with
    | 0, _, ho, ev, hT => obtain rfl := oper_is ho rfl; exact .call _ _ (exec_func 33 _ _ [.pointer (some ⟨w.heap.size + 1, 0, none⟩)] rfl (by kernel_rfl) (by show [a.eval (.tmp 22)] = _; rw [e0 22 (by kernel_rfl)]; rfl)) ((hT.num (by omega)).mono fun e w2 h => ⟨_, h.1, ⟨by rw [HS5.out]; rfl, h.2.1⟩, h.2.2⟩)
    | 1, _, ho, ev, hT => obtain rfl := oper_is ho rfl; exact .call _ _ (exec_func 33 _ _ [.pointer (some ⟨w.heap.size + 1, 0, none⟩)] rfl (by kernel_rfl) (by show [a.eval (.tmp 24)] = _; rw [e0 24 (by kernel_rfl)]; rfl)) ((hT.num (by omega)).mono fun e w2 h => ⟨_, h.1, ⟨by rw [HS5.out]; rfl, h.2.1⟩, h.2.2⟩)
    | 2, _, ho, ev, hT => obtain rfl := oper_is ho rfl; exact .call _ _ (exec_func 33 _ _ [.pointer (some ⟨w.heap.size + 1, 0, none⟩)] rfl (by kernel_rfl) (by show [a.eval (.tmp 26)] = _; rw [e0 26 (by kernel_rfl)]; rfl)) ((hT.num (by omega)).mono fun e w2 h => ⟨_, h.1, ⟨by rw [HS5.out]; rfl, h.2.1⟩, h.2.2⟩)
    | 3, _, ho, ev, hT => obtain rfl := oper_is ho rfl; exact .call _ _ (exec_func 33 _ _ [.pointer (some ⟨w.heap.size + 1, 0, none⟩)] rfl (by kernel_rfl) (by show [a.eval (.tmp 28)] = _; rw [e0 28 (by kernel_rfl)]; rfl)) ((hT.num (by omega)).mono fun e w2 h => ⟨_, h.1, ⟨by rw [HS5.out]; rfl, h.2.1⟩, h.2.2⟩)
    | 4, _, ho, ev, hT =>
      obtain rfl := oper_is ho rfl
      have v0 := ev 0 (by omega) 23 rfl
      have v1 := ev 1 (by omega) 25 rfl
      have v2 := ev 2 (by omega) 27 rfl
      have v3 := ev 3 (by omega) 29 rfl
      have v5 := e0 21 (by kernel_rfl)
      rw [HS5.out] at v0 v1 v2 v3
      exact .val (.agg (rcells (rd0 x (l, false))).toArray) (exec_made 23 #[(0, .tmp 21), (1, .tmp 23), (2, .tmp 25), (3, .tmp 27), (4, .tmp 29)] rfl [(0, .int .i64 (x.toNat : Int)), (1, .int .i64 (sNum (st (l, false) 0)).1), (2, .int .i64 (sNum (st (l, false) 1)).1), (3, .int .i64 (sNum (st (l, false) 2)).1), (4, .int .i64 (sNum (st (l, false) 3)).1)] _ (by show [(0, a.eval (.tmp 21)), (1, a.eval (.tmp 23)), (2, a.eval (.tmp 25)), (3, a.eval (.tmp 27)), (4, a.eval (.tmp 29))] = _; rw [v5, v0, v1, v2, v3]; rfl) (build_rec5 _ _ _ _ _ _)) ⟨by rw [HS5.out]; rfl, hT.last⟩ (Kp.refl _ _)
  case hnew =>
    intro o a w' ho
    obtain rfl := oper_is ho rfl
    go_simp
    rfl
  case hK =>
    intro vals g w4 hv hq hT hg hB
    have v0 : vals 4 = .int .i64 (sNum (st (l, false) 0)).1 := (hv 0 (by simp)).trans (by rw [HS5.out]; rfl)
    have v1 : vals 6 = .int .i64 (sNum (st (l, false) 1)).1 := (hv 1 (by simp)).trans (by rw [HS5.out]; rfl)
    have v2 : vals 8 = .int .i64 (sNum (st (l, false) 2)).1 := (hv 2 (by simp)).trans (by rw [HS5.out]; rfl)
    have v3 : vals 10 = .int .i64 (sNum (st (l, false) 3)).1 := (hv 3 (by simp)).trans (by rw [HS5.out]; rfl)
    have v5 : vals 11 = .agg (rcells (rd0 x (l, false))).toArray := (hv 4 (by simp)).trans (by rw [HS5.out]; rfl)
    generalize (sNum (st (l, false) 0)).1 = q0 at v0
    generalize (sNum (st (l, false) 1)).1 = q1 at v1
    generalize (sNum (st (l, false) 2)).1 = q2 at v2
    generalize (sNum (st (l, false) 3)).1 = q3 at v3
    obtain ⟨R, hR⟩ : ∃ R, R = rd x (l, false) := ⟨_, rfl⟩
    have hR0 : rd0 x (l, false) = { R with body := [] } := by rw [rd0, hR]
    rw [hR0] at v5
    simp only [putZ, v0, v1, v2, v3, v5, hq]
    simp only [Act.put, List.setIfInBounds_toArray, List.set_cons_zero, List.set_cons_succ]
    clear v0 v1 v2 v3 v5 hq hv hR0
    have HT5 := Lib.hid hT
    have HB := Lib.hid hB
    have HR := Lib.hid hR
    clear hT hB hR
    refine reg_store 13 none 23 (.tmp 7) (.tmp 30) rfl rfl rfl (by kernel_rfl) (by rfl) g 23 (rcells zr) (rcells { R with body := [] }) HB.out rfl rfl rfl (rec_size _) (rcells_one _) ?_
    intro w5 hB5 k5 z5
    refine ⟨trivial, fun _ => ?_⟩
    have hbg : w.heap.size + 1 < g := by have := HT5.out.2.2.1; omega
    have G5 : Hid (Mw w (w.heap.size + 2) (w.heap.size + 1) (st (l, false) 4) w5) := Lib.hid (HT5.out.1.far k5 (fun j e => by
      have e : j = g := e
      omega))
    have HBG := Lib.hid hbg
    have HB5 := Lib.hid hB5
    clear hB5 k5 z5 HB HT5 HT0 G3 hg HMN HNe hbg
    simp only [Act.put, List.setIfInBounds_toArray, List.set_cons_zero, List.set_cons_succ]
    refine reg_end (by kernel_rfl) ?_
    have htx := mText (w.heap.size + 1) (st (l, false) 4) 512 w5 G5.out.i
    rw [show (sText (st (l, false) 4) 512).1 = R.body by rw [HR.out]; rfl, show (sText (st (l, false) 4) 512).2 = st (l, false) 5 from rfl] at htx
    have HTX := Lib.hid htx
    clear htx
    go_wp2_with fail
    refine HTX.out.mono ?_
    rintro e w6 ⟨rfl, p6⟩
    have G6 := Lib.hid (G5.out.more p6)
    have hB6 := HB5.out.keep p6.2 (fun e => by have e : g = w.heap.size + 1 := e; have := HBG.out; omega)
    have hB7 : Blk (w6.setCell ⟨g, 5, none⟩ (.string (str R.body))) g 23 (rcells R) := by
      have := hB6.set_ 5 (.string (str R.body))
      exact this
    have c5 : w6.cell? ⟨g, 5, none⟩ = some (.string (str [])) := hB6.cell 5
    have f5 : w6.frozen? ⟨g, 5, none⟩ = false := hB6.frozen 5
    have G7 : Hid (Mw w (w.heap.size + 2) (w.heap.size + 1) (st (l, false) 5) (w6.setCell ⟨g, 5, none⟩ (.string (str R.body)))) := Lib.hid (G6.out.far (F := oneF g) ((Kp.refl (oneF g) w6).setCell (p := ⟨g, 5, none⟩) (.inl rfl) _) (fun j e => by
      have e : j = g := e
      have := HBG.out
      omega))
    have HB7 := Lib.hid hB7
    clear hB6 hB7 HB5 G5 G6 p6 HTX
    go_wp2_with fail
    generalize w6.setCell ⟨g, 5, none⟩ (.string (str R.body)) = w7 at *
    have hend := mEnd (w.heap.size + 1) (st (l, false) 5) w7 G7.out.i
    have hget := recGet_cons x l
    rw [← HR.out] at hget
    obtain ⟨eb, heb⟩ : ∃ eb, eb = (!(st (l, false) 5).2 && (st (l, false) 5).1.isEmpty) := ⟨_, rfl⟩
    rw [← heb] at hend hget
    have HE := Lib.hid hend
    have HGT := Lib.hid hget
    clear hend hget heb
    have hgo := dGood R w7
    unfold rv at hgo
    have HGO := Lib.hid hgo
    have c0 : w7.cell? ⟨g, 0, none⟩ = some (.int .i64 R.kind) := HB7.out.cell 0
    have c1 : w7.cell? ⟨g, 1, none⟩ = some (.int .i64 R.queue) := HB7.out.cell 1
    have c2 : w7.cell? ⟨g, 2, none⟩ = some (.int .i64 R.id) := HB7.out.cell 2
    have c3 : w7.cell? ⟨g, 3, none⟩ = some (.int .i64 R.num) := HB7.out.cell 3
    have c4 : w7.cell? ⟨g, 4, none⟩ = some (.int .i64 R.wait) := HB7.out.cell 4
    have c5 : w7.cell? ⟨g, 5, none⟩ = some (.string (str R.body)) := HB7.out.cell 5
    clear hgo HR
    refine HE.out.mono ?_
    rintro e w' ⟨rfl, rfl⟩
    cases eb with
    | false =>
      go_wp2_with (first
        | (refine wpList_store_blk rfl 23 (.tmp 2) (.tmp 42) rfl _ _ (rcells zr) (rcells zr) G7.out.z rfl rfl rfl (rec_size _) (rcells_one _) ?_; intro w3 hB3 k3 z3; have HB3 := Lib.hid hB3; have HK3 := Lib.hid (G7.out.k.since k3 (fun i e => Nat.le_of_eq e.symm)); clear hB3 k3 z3))
      refine bodyPost_ret (results_rec rfl _ _ w.heap.size _ (rcells zr) d rfl HB3.out hd1 hd2 (rec_size _) _ rfl) rfl ⟨?_, HK3.out⟩
      rw [gotR, HGT.out, if_neg (by simp)]; rfl
    | true =>
      cases hgd : good R with
      | false =>
        rw [hgd] at HGO
        go_wp2_with (first
          | (go_at_call 12; refine HGO.out.mono ?_; rintro e w6 ⟨rfl, k6⟩; have HK6 := Lib.hid k6; clear k6)
          | (refine wpList_store_blk rfl 23 (.tmp 2) (.tmp 42) rfl _ _ (rcells zr) (rcells zr) (G7.out.z.keep HK6.out (fun e => e)) rfl rfl rfl (rec_size _) (rcells_one _) ?_; intro w3 hB3 k3 z3; have HB3 := Lib.hid hB3; have HK3 := Lib.hid ((G7.out.k.trans HK6.out (fun _ e => e.elim)).since k3 (fun i e => Nat.le_of_eq e.symm)); clear hB3 k3 z3))
        refine bodyPost_ret (results_rec rfl _ _ w.heap.size _ (rcells zr) d rfl HB3.out hd1 hd2 (rec_size _) _ rfl) rfl ⟨?_, HK3.out⟩
        rw [gotR, HGT.out, if_neg (by simp [hgd])]; rfl
      | true =>
        rw [hgd] at HGO
        go_wp2_with (first
          | (go_at_call 12; refine HGO.out.mono ?_; rintro e w6 ⟨rfl, k6⟩; have HK6 := Lib.hid k6; have HB6 := Lib.hid (HB7.out.keep k6 (fun e => e)); clear k6)
          | (refine wpList_load_blk rfl 23 (.tmp 7) rfl g _ (rcells R) HB6.out rfl d hd1 hd2 (rec_size _) ?_)
          | (refine wpList_store_blk rfl 23 (.tmp 2) (.tmp 43) rfl _ _ (rcells zr) (rcells R) (G7.out.z.keep HK6.out (fun e => e)) rfl rfl rfl (rec_size _) (rcells_one _) ?_; intro w3 hB3 k3 z3; have HB3 := Lib.hid hB3; have HK3 := Lib.hid ((G7.out.k.trans HK6.out (fun _ e => e.elim)).since k3 (fun i e => Nat.le_of_eq e.symm)); clear hB3 k3 z3))
        refine bodyPost_ret (results_rec rfl _ _ w.heap.size _ (rcells R) d rfl HB3.out hd1 hd2 (rec_size _) _ rfl) rfl ⟨?_, HK3.out⟩
        rw [gotR, HGT.out, if_pos (by simp [hgd])]; rfl

theorem dGet (l : List UInt8) (w : World) (hl : l.length ≤ 1048576) :
    Calls Try.prog 17 #[.string (str l)] w fun e w' => e = .returned (.tuple #[rv (gotR l), .bool (recGet l).isSome]) ∧ Kp nob w w' := by
  cases l with
  | nil =>
    have e : recGet [] = none := by unfold recGet; rfl
    have h := dGet_nil w
    rw [gotR, e]; exact h
  | cons x l => exact dGet_cons x l w (by simp at hl; omega)
end Go.Proofs.Ytadhhnlolnnkhaa.Rec
