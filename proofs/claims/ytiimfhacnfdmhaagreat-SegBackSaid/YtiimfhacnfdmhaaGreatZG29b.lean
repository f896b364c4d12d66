/- Lemmas: SegZ RecG SegV SegL. -/
import Derived.Test.YtiimfhacnfdmhaaGreatZG28
import Derived.Test.YtiimfhacnfdmhaaGreatZG29
set_option linter.unusedVariables false
set_option linter.unusedSimpArgs false
namespace Go.Proofs.YtiimfhacnfdmhaaGreat.Seg
open Go Go.RowKit Kit
open Rec (Rec good ftot fsec split Rrow Sr SrOk total size_any)
theorem ftot_total (rs : List Rec) : ftot rs = 48 + 27 * rs.length + total rs := by
  unfold ftot total
  induction rs with
  | nil => rfl
  | cons r rs ih => simp only [List.map_cons, List.sum_cons, List.length_cons]; omega
set_option maxHeartbeats 1000000 in
set_option maxRecDepth 100000 in
theorem size_c : SizeC := by
  intro A m d rs w hm hp hT hd
  have hf := ftot_total rs
  have HF := Lib.hid hf
  have HS := Lib.hid (fun w' (k : Kp nob w w') => size_any A m d rs w' hm (hp.keep0 k) (by omega) (by unfold maxLen; omega))
  obtain ⟨T, hT2⟩ : ∃ T, T = total rs := ⟨_, rfl⟩
  rw [← hT2] at HS HF hf
  have e1 : IntKind.i64.wrap ((27 : Int) * (m : Int)) = ((27 * m : Nat) : Int) := by rw [IntWalk.i64_in _ (by omega)]; omega
  have e2 : IntKind.i64.wrap ((48 : Int) + ((27 * m : Nat) : Int)) = ((48 + 27 * m : Nat) : Int) := by rw [IntWalk.i64_in _ (by omega)]; omega
  have e3 : IntKind.i64.wrap (((48 + 27 * m : Nat) : Int) + (T : Int)) = ((48 + 27 * m + T : Nat) : Int) := by rw [IntWalk.i64_in _ (by omega)]; omega
  have HE : Hid (ftot rs = 48 + 27 * m + T) := Lib.hid (by omega)
  have hTb : T ≤ 1099511627776 := by omega
  clear hm hp hT hT2 hf
  go_enter Tryz.func11, Tryz.ntmps11
  go_wp2_with (first | (go_at_call 36; refine (HS.out _ (Kp.refl _ _)).mono ?_; rintro e w2 ⟨rfl, k2⟩) | fail)
  go_ret
  exact ⟨by rw [HE.out]; go_num, k2⟩
set_option maxHeartbeats 1000000 in
set_option maxRecDepth 100000 in
theorem sectors_c : SectorsC := by
  intro A m d rs w hm hp hT hd
  have HF := Lib.hid (size_c A m d rs w hm hp hT hd)
  have HS := Lib.hid (show fsec rs = (ftot rs + 255) / 256 from rfl)
  obtain ⟨T, hT2⟩ : ∃ T, T = ftot rs := ⟨_, rfl⟩
  rw [← hT2] at HF hT HS
  have e1 : IntKind.i64.wrap ((T : Int) + 256) = ((T + 256 : Nat) : Int) := by rw [IntWalk.i64_in _ (by omega)]; omega
  have e2 : IntKind.i64.wrap (((T + 256 : Nat) : Int) - 1) = ((T + 255 : Nat) : Int) := by rw [IntWalk.i64_in _ (by omega)]; omega
  have e3 : ((T + 255 : Nat) : Int).tdiv 256 = (((T + 255) / 256 : Nat) : Int) := by rw [Int.tdiv_eq_ediv_of_nonneg (by omega)]; omega
  have e4 : IntKind.i64.wrap (((T + 255) / 256 : Nat) : Int) = (((T + 255) / 256 : Nat) : Int) := by rw [IntWalk.i64_in _ (by omega)]
  clear hm hp hd hT2
  go_enter Tryz.func13, Tryz.ntmps13
  go_wp2_with fail
  refine HF.out.mono ?_
  rintro e w2 ⟨rfl, k2⟩
  have e5 : ((T : Int) + 256 - 1) / 256 = (((T + 255) / 256 : Nat) : Int) := by omega
  have H5 := Lib.hid e5; clear e5 e1 e2 e3 e4
  go_wp2
  go_ret
  refine ⟨?_, k2⟩
  rw [HS.out, ← H5.out]; rfl
theorem lenF_in (l : List UInt8) : ∃ v : Nat, (sIn (l.take 8, false) 48 16384).1 = (v : Int) ∧ v ≤ 16384 ∧ lenF l = if l.length < v then 0 else v := by
  by_cases h8 : 8 ≤ l.length
  · have hs : sTake (l.take 8, false) 8 = ((l.take 8, true), ([], false)) := by
      have := sTake_app (l.take 8) [] 8 (by rw [List.length_take]; omega)
      rw [List.append_nil] at this; exact this
    have hn : sNum (l.take 8, false) = (wrap64 (lowN (l.take 8) : Nat), ([], false)) := by unfold sNum; rw [hs]
    unfold sIn lenF
    rw [hn]
    obtain ⟨x, hx⟩ : ∃ x, x = wrap64 (lowN (l.take 8) : Nat) := ⟨_, rfl⟩
    rw [← hx]
    by_cases hc : x < 48 ∨ 16384 < x
    · rw [if_pos hc, if_neg (by omega)]
      exact ⟨0, rfl, by omega, by rw [if_neg (by omega)]⟩
    · rw [if_neg hc]
      refine ⟨x.toNat, by simp only; omega, by omega, ?_⟩
      by_cases hl : l.length < x.toNat
      · rw [if_pos hl, if_neg (by omega)]
      · rw [if_neg hl, if_pos (by omega)]
  · have hs : sTake (l.take 8, false) 8 = (([], false), bust) := sTake_no _ _ (.inl (by simp only [List.length_take]; omega))
    have hn : (sNum (l.take 8, false)).1 = 0 := by unfold sNum; rw [hs]; show wrap64 ((lowN [] : Nat) : Int) = 0; rw [show lowN [] = 0 from rfl]; unfold wrap64; omega
    unfold sIn lenF
    rw [if_pos (.inl (by rw [hn]; decide)), if_neg (by omega)]
    exact ⟨0, rfl, by omega, by rw [if_neg (by omega)]⟩
set_option maxHeartbeats 1000000 in
set_option maxRecDepth 100000 in
theorem length_c : LengthC := by
  intro A n c l w hn hr hl hA hc hcm
  unfold maxLen at hcm
  obtain ⟨v, hv, hv2, hv3⟩ := lenF_in l
  have HL : Hid (lenF l = if n < v then 0 else v) := Lib.hid (by rw [← hn]; exact hv3)
  have main : ∀ k : Nat, k = min 8 n → ∀ w', Kp nob w w' → Calls Tryz.prog 56 #[.slice A k c] w' fun e w' => ∃ b A', e = .returned (.pointer (some ⟨b, 0, none⟩)) ∧ IsR w' b A' (l.take 8) false ∧ Kp nob w w' ∧ (∀ k, WF b A' k → w.heap.size ≤ k) := by
    intro k hk w' kw
    have hrow : Row w' A (bvs (l.take 8)) := by
      have := (hr.keep0 kw).take 8
      rw [bvs, List.map_take]; exact this
    refine (rRead A k c (l.take 8) w' (by rw [List.length_take]; omega) (by omega) hA hrow).mono ?_
    rintro e w2 ⟨b, A', rfl, h1, h2, h3⟩
    exact ⟨b, A', rfl, h1, kw.trans h2 (fun _ e => e.elim), fun i e => Nat.le_trans kw.size (h3 i e)⟩
  have HM := Lib.hid main
  have HI := Lib.hid (fun (b : Nat) (A' : Option Addr) (w' : World) (h : IsR w' b A' (l.take 8) false) => rIn b A' (l.take 8, false) 48 16384 w' h)
  rw [hv] at HI
  have HN := Lib.hid hn
  clear main hv hv3 hr hn
  have hn64 : (n : Int) ≤ 9223372036854775807 := by omega
  by_cases h8 : n ≤ 8
  · have hmin : min (n : Int) 8 = (n : Int) := by omega
    have HK : Hid (n = min 8 n) := Lib.hid (by omega)
    go_enter Tryz.func30, Tryz.ntmps30
    go_wp2_with (first
      | (go_at_call 56; refine (HM.out n HK.out _ (Kp.refl _ _)).mono ?_; rintro e w2 ⟨b, A', rfl, h1, k2, h3⟩)
      | (go_at_call 57; refine (HI.out b A' _ h1).mono ?_; rintro e w3 ⟨rfl, A3, h4, k3, h5⟩; have HK3 : Hid (Kp nob w w3) := Lib.hid (k2.trans k3 (fun i e => .inr (h3 i (.inl e)))); clear h1 k2 h3 h4 k3 h5)
      | fail)
    go_wp2
    all_goals
      go_ret
      refine ⟨?_, HK3.out⟩
      rw [HL.out]
      first
        | (rw [if_pos (by omega)]; rfl)
        | (rw [if_neg (by omega)]; rfl)
  · have h8b : 8 < n := by omega
    have hmin : min (n : Int) 8 = 8 := by omega
    have h8c : (8 : Int) ≤ (c : Int) := by omega
    have HK : Hid (8 = min 8 n) := Lib.hid (by omega)
    go_enter Tryz.func30, Tryz.ntmps30
    go_wp2_with (first
      | (go_at_call 56; refine (HM.out 8 HK.out _ (Kp.refl _ _)).mono ?_; rintro e w2 ⟨b, A', rfl, h1, k2, h3⟩)
      | (go_at_call 57; refine (HI.out b A' _ h1).mono ?_; rintro e w3 ⟨rfl, A3, h4, k3, h5⟩; have HK3 : Hid (Kp nob w w3) := Lib.hid (k2.trans k3 (fun i e => .inr (h3 i (.inl e)))); clear h1 k2 h3 h4 k3 h5)
      | fail)
    go_wp2
    all_goals
      go_ret
      refine ⟨?_, HK3.out⟩
      rw [HL.out]
      first
        | (rw [if_pos (by omega)]; rfl)
        | (rw [if_neg (by omega)]; rfl)
end Go.Proofs.YtiimfhacnfdmhaaGreat.Seg
namespace Go.Proofs.YtiimfhacnfdmhaaGreat.Rec
open Go Go.RowKit Kit
def zr : Rec := ⟨0, 0, 0, 0, 0, []⟩
theorem rec_row : (Tryz.prog.underlying 34).map (·.isRow) = some true := by kernel_rfl
theorem rec_undE : ∃ d, Tryz.prog.underlying 34 = some d ∧ d.isRow = true := by
  have h := rec_row
  cases hu : Tryz.prog.underlying 34 with
  | none => rw [hu] at h; cases h
  | some d => rw [hu] at h; exact ⟨d, rfl, by simpa using h⟩
structure Gw (w : World) (M b : Nat) (A : Option Addr) (s : List UInt8 × Bool) (w2 : World) : Prop where
  z : Blk w2 w.heap.size 34 (rcells zr)
  i : IsR w2 b A s.1 s.2
  f : ∀ k, WF b A k → w.heap.size < k ∧ k < M
  k : Kp nob w w2
theorem Gw.keep {w w2 w3 : World} {M b : Nat} {A : Option Addr} {s : List UInt8 × Bool} (h : Gw w M b A s w2) (k : Kp nob w2 w3) : Gw w M b A s w3 := ⟨h.z.keep k (fun e => e), h.i.keep k (fun _ _ e => e), h.f, h.k.trans k (fun _ e => e.elim)⟩
theorem Gw.far {w w2 w3 : World} {M b : Nat} {A : Option Addr} {s : List UInt8 × Bool} {F : Nat → Prop} (h : Gw w M b A s w2) (k : Kp F w2 w3) (hF : ∀ j, F j → ¬ WF b A j ∧ w.heap.size < j) : Gw w M b A s w3 :=
  ⟨h.z.keep k (fun e => Nat.lt_irrefl _ (hF _ e).2), h.i.keep k (fun j e e2 => (hF j e2).1 e), h.f, h.k.since k (fun i e => Nat.le_of_lt (hF i e).2)⟩
theorem Gw.more {w w2 w3 : World} {M b : Nat} {A : Option Addr} {s s' : List UInt8 × Bool} (h : Gw w M b A s w2) (p : RPost w2 b A s' w3) : ∃ A', Gw w M b A' s' w3 := by
  obtain ⟨A', h1, h2, h3⟩ := p
  have hb : w.heap.size < b := (h.f b (.inl rfl)).1
  refine ⟨A', h.z.keep h2 (fun e => by have e : w.heap.size = b := e; omega), h1, fun k e => ?_, h.k.since h2 (fun i e => by have e : i = b := e; omega)⟩
  rcases e with e | e
  · exact h.f k (.inl e)
  · rcases h3 with h3 | h3
    · rw [h3] at e; exact h.f k (.inr e)
    · rw [h3] at e; cases e
def st (s : List UInt8 × Bool) : Nat → List UInt8 × Bool
  | 0 => s
  | n + 1 => if n < 4 then (sNum (st s n)).2 else (sText (st s n) 512).2
def vv (s : List UInt8 × Bool) (p : Nat) : Value := if p < 4 then .int .i64 (sNum (st s p)).1 else .string (str (sText (st s p) 512).1)
def rd (x : UInt8) (s : List UInt8 × Bool) : Rec := ⟨(x.toNat : Int), (sNum (st s 0)).1, (sNum (st s 1)).1, (sNum (st s 2)).1, (sNum (st s 3)).1, (sText (st s 4) 512).1⟩
theorem rd_eq (x : UInt8) (l : List UInt8) : recRead (x :: l) = (rd x (l, false), st (l, false) 5) := by
  rw [recRead_cons]; rfl
def gotR (l : List UInt8) : Rec := (recGet l).getD zr
def gotE (l : List UInt8) : Int := if (recGet l).isSome then 0 else 4
theorem recGet_cons (x : UInt8) (l : List UInt8) : recGet (x :: l) = if (!(st (l, false) 5).2 && (st (l, false) 5).1.isEmpty) = true ∧ good (rd x (l, false)) = true then some (rd x (l, false)) else none := by
  have e : ((!(st (l, false) 5).2 && (st (l, false) 5).1.isEmpty) = true ∧ good (rd x (l, false)) = true) ↔ ((st (l, false) 5).2 = false ∧ (st (l, false) 5).1 = [] ∧ good (rd x (l, false)) = true) := by
    simp only [Bool.and_eq_true, Bool.not_eq_true', List.isEmpty_iff, and_assoc]
  unfold recGet
  rw [if_neg (by simp), rd_eq]
  by_cases h : (!(st (l, false) 5).2 && (st (l, false) 5).1.isEmpty) = true ∧ good (rd x (l, false)) = true
  · rw [if_pos h, if_pos (e.1 h)]
  · rw [if_neg h, if_neg (fun h2 => h (e.2 h2))]
set_option maxRecDepth 100000 in
theorem build_rec (k q i n t : Int) (b : ByteArray) (w : World) : (Instr.build 34 #[(0, .int .i64 k), (1, .int .i64 q), (2, .int .i64 i), (3, .int .i64 n), (4, .int .i64 t), (5, .string b)]).run Tryz.prog w = .ok (.agg #[.int .i64 k, .int .i64 q, .int .i64 i, .int .i64 n, .int .i64 t, .string b]) w := by kernel_rfl
def Tg (w : World) (M b b2 : Nat) (x : UInt8) (s : List UInt8 × Bool) (N : Nat) (p : Nat) (w' : World) : Prop :=
  (∃ A, Gw w M b A (st s (min p 5)) w') ∧ w'.cell? ⟨b2, 0, none⟩ = some (bv x) ∧ b2 < N ∧ b2 ≠ b ∧ N ≤ w'.heap.size ∧ b < N ∧ M ≤ N
theorem Tg.alloc {w : World} {M b b2 : Nat} {x : UInt8} {s : List UInt8 × Bool} {N p : Nat} {w' : World} (h : Tg w M b b2 x s N p w') (o : Obj) : Tg w M b b2 x s N p (w'.alloc o) := by
  obtain ⟨⟨A, h1⟩, h2, h3, h4, h5, h6⟩ := h
  have k := (Kp.refl nob w').alloc o
  exact ⟨⟨A, h1.keep k⟩, (k.cell (p := ⟨b2, 0, none⟩) (by show b2 < _; omega) (fun e => e)).trans h2, h3, h4, Nat.le_trans h5 k.size, h6⟩
theorem Tg.go {w : World} {M b b2 : Nat} {x : UInt8} {s : List UInt8 × Bool} {N p : Nat} {w' w2 : World} {A : Option Addr} (h : Tg w M b b2 x s N p w') (hA : Gw w M b A (st s (min p 5)) w') (r : RPost w' b A (st s (min (p + 1) 5)) w2) : Tg w M b b2 x s N (p + 1) w2 ∧ Kp (oneF b) w' w2 := by
  obtain ⟨_, h2, h3, h4, h5, h6⟩ := h
  have k : Kp (oneF b) w' w2 := by obtain ⟨_, _, k, _⟩ := r; exact k
  exact ⟨⟨hA.more r, (k.cell (p := ⟨b2, 0, none⟩) (by show b2 < _; omega) (fun e => h4 e)).trans h2, h3, h4, Nat.le_trans h5 k.size, h6⟩, k⟩
theorem Tg.num {w : World} {M b b2 : Nat} {x : UInt8} {s : List UInt8 × Bool} {N p : Nat} {w' : World} (h : Tg w M b b2 x s N p w') (hp : p < 4) :
    Calls Tryz.prog 84 #[.pointer (some ⟨b, 0, none⟩)] w' fun e w2 => e = .returned (vv s p) ∧ Tg w M b b2 x s N (p + 1) w2 ∧ Kp (oneF b) w' w2 := by
  obtain ⟨A, hA⟩ := h.1
  have e1 : min p 5 = p := by omega
  have e2 : min (p + 1) 5 = p + 1 := by omega
  refine (rNum b A (st s (min p 5)) w' hA.i).mono ?_
  rintro e w2 ⟨rfl, r⟩
  refine ⟨by rw [vv, if_pos hp, e1], h.go hA ?_⟩
  rw [e2, st, if_pos hp, ← e1]; exact r
theorem Tg.text {w : World} {M b b2 : Nat} {x : UInt8} {s : List UInt8 × Bool} {N : Nat} {w' : World} (h : Tg w M b b2 x s N 4 w') :
    Calls Tryz.prog 77 #[.pointer (some ⟨b, 0, none⟩), .int .i64 512] w' fun e w2 => e = .returned (vv s 4) ∧ Tg w M b b2 x s N (4 + 1) w2 ∧ Kp (oneF b) w' w2 := by
  obtain ⟨A, hA⟩ := h.1
  refine (rText b A (st s 4) 512 w' hA.i).mono ?_
  rintro e w2 ⟨rfl, r⟩
  exact ⟨rfl, h.go hA r⟩
theorem Tg.last {w : World} {M b b2 : Nat} {x : UInt8} {s : List UInt8 × Bool} {N : Nat} {w' : World} (h : Tg w M b b2 x s N 5 w') : Tg w M b b2 x s N (5 + 1) w' := h
theorem sText_len (s : List UInt8 × Bool) (most : Int) : (sText s most).1.length ≤ 65536 := by
  unfold sText
  split
  · simp
  · rename_i h
    have := sTake_length (sTake s 3).2 (lowN (sTake s 3).1.1 : Nat)
    simp only [Int.toNat_natCast] at this
    show (sTake (sTake s 3).2 (lowN (sTake s 3).1.1 : Nat)).1.1.length ≤ 65536
    omega
theorem rd_len (x : UInt8) (s : List UInt8 × Bool) : (rd x s).body.length ≤ 65536 := sText_len _ _
end Go.Proofs.YtiimfhacnfdmhaaGreat.Rec
namespace Go.Proofs.YtiimfhacnfdmhaaGreat.Seg
open Go Go.RowKit Kit
open Rec (Rec good ftot ftot_snoc ftot_take recB Rrow)
open Ideal (Ts Thing Ans Arg Args sealT derT hashT leafT rootT)
open Vault
structure Pt where
  q : Int
  X : Option Addr
  c : Nat
  b : List UInt8
def Pt.cells (p : Pt) : List Value := [.int .i64 p.q, .slice p.X p.b.length p.c]
def Pt.two (p : Pt) : Int × List UInt8 := (p.q, p.b)
structure Parts (w : World) (P : Nat → Prop) (A : Option Addr) (gs : List Pt) : Prop where
  row : Row w A (gs.flatMap Pt.cells)
  far : gs = [] ∨ ∀ i, ab A = some i → ¬ P i
  arg : ∀ g ∈ gs, Arg w P g.X g.b.length g.c g.b
theorem cells_length (gs : List Pt) : (gs.flatMap Pt.cells).length = gs.length * 2 := by
  induction gs with
  | nil => rfl
  | cons g gs ih => rw [List.flatMap_cons, List.length_append, ih, List.length_cons, Nat.add_mul, Nat.add_comm]; rfl
theorem Parts.keep0 {w w2 : World} {P : Nat → Prop} {A : Option Addr} {gs : List Pt} (h : Parts w P A gs) (k : Kp nob w w2) : Parts w2 P A gs := ⟨h.row.keep0 k, h.far, fun g hg => (h.arg g hg).keep0 k⟩
theorem Parts.call [Inhabited Sha.ShaTab] [Inhabited Field.SqTab] {w w2 : World} {c : Vc} {x x2 : Vt} {A : Option Addr} {gs : List Pt} (q : Vq w c x w2 x2) (h : Parts w x.P A gs) : Parts w2 x2.P A gs := by
  refine ⟨?_, ?_, fun g hg => q.arg (h.arg g hg)⟩
  · rcases h.far with e | e
    · subst e; exact Row.nil _ _
    · exact h.row.keep q.kp e
  · rcases h.far with e | e
    · exact .inl e
    · by_cases hn : gs = []
      · exact .inl hn
      · exact .inr (fun i hi => q.old (e i hi) (h.row.lt (fun e2 => hn (List.eq_nil_of_length_eq_zero (by have := cells_length gs; rw [e2] at this; simp at this; omega))) i hi))
theorem Parts.at_ {w : World} {P : Nat → Prop} {A : Option Addr} {gs : List Pt} (h : Parts w P A gs) {i : Nat} (hi : i < gs.length) : ∃ b o, A = some ⟨b, o, none⟩ ∧ b < w.heap.size ∧
    w.cell? ⟨b, o + i * 2, none⟩ = some (.int .i64 gs[i].q) ∧ w.cell? ⟨b, o + i * 2 + 1, none⟩ = some (.slice gs[i].X gs[i].b.length gs[i].c) := by
  have hcell : ∀ j < 2, (gs.flatMap Pt.cells)[i * 2 + j]? = (Pt.cells gs[i])[j]? := by
    intro j hj
    have h1 : gs.flatMap Pt.cells = (gs.take i).flatMap Pt.cells ++ (gs[i].cells ++ (gs.drop (i + 1)).flatMap Pt.cells) := by
      conv => lhs; rw [← List.take_append_drop i gs, List.drop_eq_getElem_cons hi]
      rw [List.flatMap_append, List.flatMap_cons]
    have h2 : ((gs.take i).flatMap Pt.cells).length = i * 2 := by rw [cells_length, List.length_take, Nat.min_eq_left (by omega)]
    rw [h1, List.getElem?_append_right (by rw [h2]; omega), h2, show i * 2 + j - i * 2 = j by omega, List.getElem?_append_left (by simp [Pt.cells]; omega)]
  rcases h.row with e | ⟨b, o, hA, hlt, hc⟩
  · exfalso
    have := cells_length gs
    rw [e] at this
    simp at this; omega
  · refine ⟨b, o, hA, hlt, ?_, ?_⟩
    · have := hc (i * 2) (.int .i64 gs[i].q) (by have := hcell 0 (by omega); simpa [Pt.cells] using this)
      exact this
    · have := hc (i * 2 + 1) (.slice gs[i].X gs[i].b.length gs[i].c) (by have := hcell 1 (by omega); simpa [Pt.cells] using this)
      rw [← Nat.add_assoc] at this; exact this
theorem part_info : (Tryz.prog.info? 128).map (fun i => (i.zero, i.size, i.bytes)) = some (some (.agg #[.int .i64 0, .slice none 0 0]), 2, 32) := by kernel_rfl
theorem part_under : Tryz.prog.underlying 84 = some (.slice 128) := by kernel_rfl
theorem ftot_le5 (rs : List Rec) (h : ∀ r ∈ rs, r.body.length ≤ 4096) : ftot rs ≤ 48 + 4159 * rs.length := by
  induction rs with
  | nil => exact Nat.le_refl _
  | cons r rs ih =>
    have hf : ftot (r :: rs) = 63 + r.body.length + ftot rs := by simp [ftot]; omega
    have := ih (fun x hx => h x (List.mem_cons_of_mem _ hx))
    have := h r List.mem_cons_self
    rw [hf, List.length_cons]; omega
theorem refu_perr (lim : Nat) (e s : Int) (k T : Nat) (r : Rec) (hg : good r = true) (hsm : T + 63 + r.body.length ≤ 16384) (hsq : k = 0 ∨ (0 ≤ s ∧ s + k ≤ lim)) : refu lim e (s + (k : Int)) = perr1 lim e s k T r := by
  have h : perr1 lim e s k T r = if e < 0 ∨ s < 0 then 1 else if 4294967296 ≤ e ∨ (lim : Int) - (k : Int) ≤ s then 10 else 0 := by
    unfold perr1; rw [if_neg (by rw [hg]; simp), if_neg (by omega)]
  rw [h]
  unfold refu
  by_cases h1 : e < 0 ∨ s < 0
  · rw [if_pos h1, if_pos (by omega)]
  · rw [if_neg h1, if_neg (by omega)]
    by_cases h2 : 4294967296 ≤ e ∨ (lim : Int) - (k : Int) ≤ s
    · rw [if_pos h2, if_pos (by omega)]
    · rw [if_neg h2, if_neg (by omega)]
theorem clash_le (sl : List (Pl × List UInt8)) (p : Pl) (t : List UInt8) : clash dift sl p t ≤ 1 := by
  unfold clash
  split
  · omega
  · split <;> omega
structure SL [Inhabited Sha.ShaTab] [Inhabited Field.SqTab] (w : World) (c : Vc) (x : Vt) (e s : Int) (at' : List UInt8) (rs : List Rec) (k : Nat) (wr : World) (x2 : Vt) (Z : Option Addr) (cz : Nat) (gs : List Pt) : Prop where
  q : Vq w c x wr x2
  o_ : x2.o = (stA c.ms e s at' rs.length x.o (rs.take k)).1
  cl : x2.cl ≤ x.cl + k
  own : OwnK 2 128 wr Z k cz (gs.flatMap Pt.cells)
  two : gs.map Pt.two = (stA c.ms e s at' rs.length x.o (rs.take k)).2
  zf : ∀ i, ab Z = some i → w.heap.size < i ∧ ¬ x2.P i
  arg : ∀ g ∈ gs, Arg wr x2.P g.X g.b.length g.c g.b
  apart : ∀ g ∈ gs, ∀ i, ab g.X = some i → i < wr.heap.size ∧ ab Z ≠ some i
  at_ : Blk wr w.heap.size 32 (bvs at')
  af : ¬ x2.P w.heap.size
  er : perrs c.lim e s 0 48 rs = perrs c.lim e s k (ftot (rs.take k)) (rs.drop k)
  bd : bad c.lim e s 0 48 rs = k + bad c.lim e s k (ftot (rs.take k)) (rs.drop k)
  sq : k = 0 ∨ (0 ≤ s ∧ s + k ≤ c.lim)
theorem SL.start [Inhabited Sha.ShaTab] [Inhabited Field.SqTab] {w w1 : World} {c : Vc} {x : Vt} {e s : Int} {at' : List UInt8} {rs : List Rec} (h : Vx w c x) (k : Kp nob w w1) (hb : Blk w1 w.heap.size 32 (bvs at')) : SL w c x e s at' rs 0 w1 x none 0 [] := by
  refine ⟨(Vq.refl h).over0 k, ?_, Nat.le_refl _, OwnK.nil 2 128 w1, ?_, fun i h => (by cases h), fun g hg => (by cases hg), fun g hg => (by cases hg), hb, fun e => (by have := h.lt _ e; omega), ?_, ?_, .inl rfl⟩
  · rw [List.take_zero, stA_nil]
  · rw [List.take_zero, stA_nil]; rfl
  · rw [List.take_zero, List.drop_zero]; rfl
  · rw [List.take_zero, List.drop_zero, Nat.zero_add]; rfl
theorem end1_no (ms : List UInt8) (o : Ts) (size : Nat) (r : Rec) (h : good r = false ∨ 16384 < size + 63 + r.body.length) : end1 ms o size r = o := if_neg (fun e => by
  rcases h with h | h
  · rw [h] at e; cases e.1
  · omega)
theorem end1_yes (ms : List UInt8) (o : Ts) (size : Nat) (r : Rec) (h : good r = true) (h2 : size + 63 + r.body.length ≤ 16384) : end1 ms o size r = o.nx (keyT ms r.queue) := if_pos ⟨h, h2⟩
theorem SL.len [Inhabited Sha.ShaTab] [Inhabited Field.SqTab] {w wr : World} {c : Vc} {x x2 : Vt} {e s : Int} {at' : List UInt8} {rs : List Rec} {k : Nat} {Z : Option Addr} {cz : Nat} {gs : List Pt} (h : SL w c x e s at' rs k wr x2 Z cz gs) (hk : k ≤ rs.length) : gs.length = k := by
  have := congrArg List.length h.two
  rw [List.length_map, stA_length, List.length_take] at this; omega
theorem SL.bad1 [Inhabited Sha.ShaTab] [Inhabited Field.SqTab] {w wr : World} {c : Vc} {x x2 : Vt} {e s : Int} {at' : List UInt8} {rs : List Rec} {k : Nat} {Z : Option Addr} {cz : Nat} {gs : List Pt} (h : SL w c x e s at' rs k wr x2 Z cz gs) (hk : k < rs.length) {E : Int} (he : perr1 c.lim e s k (ftot (rs.take k)) rs[k] = E) (hE : E ≠ 0) :
    perrs c.lim e s 0 48 rs = E ∧ lft c.ms e s at' x.o rs (bad c.lim e s 0 48 rs) = end1 c.ms x2.o (ftot (rs.take k)) rs[k] := by
  have h1 := h.er
  have h2 := h.bd
  rw [List.drop_eq_getElem_cons hk, perrs_cons, if_neg (by rw [he]; exact hE), he] at h1
  rw [List.drop_eq_getElem_cons hk, bad_cons, if_neg (by rw [he]; exact hE)] at h2
  refine ⟨h1, ?_⟩
  rw [h2, Nat.add_zero, lft_at _ _ _ _ _ _ _ hk, h.o_]
theorem SL.next [Inhabited Sha.ShaTab] [Inhabited Field.SqTab] {w wr : World} {c : Vc} {x x2 : Vt} {e s : Int} {at' : List UInt8} {rs : List Rec} {k : Nat} {Z : Option Addr} {cz : Nat} {gs : List Pt} (h : SL w c x e s at' rs k wr x2 Z cz gs) (hk : k < rs.length) (he : perr1 c.lim e s k (ftot (rs.take k)) rs[k] = 0) :
    perrs c.lim e s 0 48 rs = perrs c.lim e s (k + 1) (ftot (rs.take (k + 1))) (rs.drop (k + 1)) ∧ bad c.lim e s 0 48 rs = k + 1 + bad c.lim e s (k + 1) (ftot (rs.take (k + 1))) (rs.drop (k + 1)) := by
  have h1 := h.er
  have h2 := h.bd
  rw [List.drop_eq_getElem_cons hk, perrs_cons, if_pos he] at h1
  rw [List.drop_eq_getElem_cons hk, bad_cons, if_pos he] at h2
  rw [ftot_snoc rs k hk]
  exact ⟨h1, by rw [h2]; omega⟩
theorem SL.own_ [Inhabited Sha.ShaTab] [Inhabited Field.SqTab] {w wr w3 w4 w5 w6 : World} {c : Vc} {x x2 x4 x5 : Vt} {e s : Int} {at' : List UInt8} {rs : List Rec} {k : Nat} {Z : Option Addr} {cz : Nat} {gs : List Pt} (h : SL w c x e s at' rs k wr x2 Z cz gs)
    (k3 : Kp nob wr w3) (q4 : Vq w3 c x2 w4 x4) (q5 : Vq w4 c x4 w5 x5) (k6 : Kp nob w5 w6) : OwnK 2 128 w6 Z k cz (gs.flatMap Pt.cells) := by
  have h3 := h.own.keep k3 (fun j _ e => e)
  have h4 := h3.keep q4.kp (fun j e => (h.zf j e).2)
  have h5 := h4.keep q5.kp (fun j e => q4.old (h.zf j e).2 (h3.lt j e))
  exact h5.keep k6 (fun j _ e => e)
theorem SL.more [Inhabited Sha.ShaTab] [Inhabited Field.SqTab] {w wr w3 w4 w5 w6 w7 : World} {c : Vc} {x x2 : Vt} {e s : Int} {at' : List UInt8} {rs : List Rec} {k : Nat} {Z Z2 X : Option Addr} {cz cz2 cX cl3 : Nat} {gs : List Pt} {F2 P2 F3 P3 : Nat → Prop} {sl3 : List (Pl × List UInt8)} {b : List UInt8}
    (h : SL w c x e s at' rs k wr x2 Z cz gs) (hv : Vx w c x) (hk : k < rs.length) (p : Rec) (hp : p = rs[k]) (h1 : perr1 c.lim e s k (ftot (rs.take k)) rs[k] = 0) (k3 : Kp nob wr w3) (q4 : Vq w3 c x2 w4 ⟨F2, P2, x2.o.nx (keyT c.ms p.queue), x2.sl, x2.cl⟩)
    (q5 : Vq w4 c ⟨F2, P2, x2.o.nx (keyT c.ms p.queue), x2.sl, x2.cl⟩ w5 ⟨F3, P3, (x2.o.nx (keyT c.ms p.queue)).nx (stT c.ms e s at' rs.length x2.o k p), sl3, cl3⟩) (hcl : cl3 ≤ x2.cl + 1)
    (hA : Ans w4 w5 P3 X cX b) (hb : b = (x2.o.nx (keyT c.ms p.queue)).val (stT c.ms e s at' rs.length x2.o k p) ((recB p).length + 16)) (hb0 : b ≠ []) (k6 : Kp nob w5 w6)
    (ho : OwnK 2 128 w7 Z2 (k + 1) cz2 (gs.flatMap Pt.cells ++ Pt.cells ⟨p.queue, X, cX, b⟩)) (hg : Kp (rowF Z) w6 w7) (hz : ab Z2 = ab Z ∨ ab Z2 = some w6.heap.size) :
    SL w c x e s at' rs (k + 1) w7 ⟨F3, P3, (x2.o.nx (keyT c.ms p.queue)).nx (stT c.ms e s at' rs.length x2.o k p), sl3, cl3⟩ Z2 cz2 (gs ++ [⟨p.queue, X, cX, b⟩]) := by
  subst hp
  have s1 := h.q.kp.size
  have s3 := k3.size
  have s4 := q4.kp.size
  have s5 := q5.kp.size
  have s6 := k6.size
  have s7 := hg.size
  have hzP : ∀ i, ab Z = some i → i < wr.heap.size ∧ ¬ P3 i := fun i e => by
    have hl := h.own.lt i e
    have h4 := q4.old (h.zf i e).2 (by omega)
    exact ⟨hl, q5.old h4 (by omega)⟩
  have hP3 : ∀ i, P3 i → i < w5.heap.size := q5.now.lt
  have hX : ∀ i, ab X = some i → i < w5.heap.size := hA.row.lt (fun e2 => hb0 (by have := congrArg List.length e2; rw [bvs_length] at this; exact List.eq_nil_of_length_eq_zero this))
  have hst := stA_snoc c.ms e s at' rs.length x.o rs k hk
  have hlen : (stA c.ms e s at' rs.length x.o (rs.take k)).2.length = k := by rw [stA_length, List.length_take]; omega
  refine ⟨?_, ?_, by have := h.cl; simp only; omega, by rw [List.flatMap_append]; simpa using ho, ?_, fun i e => ?_, fun g hgm => ?_, fun g hgm i e => ?_, ?_, ?_, (h.next hk h1).1, (h.next hk h1).2, ?_⟩
  · exact ((((h.q.over0 k3).trans q4).trans q5).over0 k6).over hg (fun i _ e => ⟨by have := (h.zf i e).1; omega, (hzP i e).2⟩) hv.sz
  · rw [hst]; unfold st1; rw [hlen, ← h.o_]
  · rw [hst, List.map_append, h.two]; unfold st1; rw [hlen, ← h.o_, hb]; rfl
  · rcases hz with e2 | e2
    · rw [e2] at e; exact ⟨(h.zf i e).1, (hzP i e).2⟩
    · rw [e2] at e; cases e
      exact ⟨by have := h.at_.lt; omega, fun e3 => by have := hP3 _ e3; omega⟩
  · rcases List.mem_append.1 hgm with hgm | hgm
    · have h5 := (q5.arg (q4.arg ((h.arg g hgm).keep0 k3))).keep0 k6
      refine ⟨h5.len, h5.row.keep hg (fun j e e2 => ?_), h5.far, h5.cap, h5.mx, h5.nil⟩
      exact (h.apart g hgm j e).2 e2
    · rcases List.mem_singleton.1 hgm with rfl
      have h5 := (ans_arg hA).keep0 k6
      refine ⟨h5.len, h5.row.keep hg (fun j e e2 => ?_), h5.far, h5.cap, h5.mx, h5.nil⟩
      have h8 := (hzP j e2).1
      have h9 := (hA.far j e).1
      omega
  · rcases List.mem_append.1 hgm with hgm | hgm
    · have h8 := h.apart g hgm i e
      refine ⟨by omega, fun e2 => ?_⟩
      rcases hz with e3 | e3
      · rw [e3] at e2; exact h8.2 e2
      · rw [e3] at e2; cases e2; omega
    · rcases List.mem_singleton.1 hgm with rfl
      have h8 := hX i e
      have h9 := (hA.far i e).1
      refine ⟨by omega, fun e2 => ?_⟩
      rcases hz with e3 | e3
      · rw [e3] at e2; have := (hzP i e2).1; omega
      · rw [e3] at e2; cases e2; omega
  · refine ((q5.blk (q4.blk (h.at_.keep k3 (fun e => e)) h.af) (q4.old h.af (by have := h.at_.lt; omega))).keep k6 (fun e => e)).keep hg (fun e => ?_)
    exact Nat.lt_irrefl _ (h.zf _ e).1
  · exact q5.old (q4.old h.af (by have := h.at_.lt; omega)) (by have := h.at_.lt; omega)
  · have := perr1_ok h1
    exact .inr ⟨by omega, by omega⟩
end Go.Proofs.YtiimfhacnfdmhaaGreat.Seg
namespace Go.Proofs.YtiimfhacnfdmhaaGreat.Seg
open Go Go.RowKit Kit
open Rec (Rec good ftot ftot_snoc ftot_take recB recB_length good_bounds Rrow rcells rv put_yes put_no rec_under rec_size)
open Ideal (Ts Thing Ans Arg Args sealT derT hashT leafT rootT zc zc_run zc_length)
open Vault
def SealP [Inhabited Sha.ShaTab] [Inhabited Field.SqTab] (c : Vc) (x : Vt) (e s : Int) (at' : List UInt8) (rs : List Rec) (w : World) (r : Ending) (w' : World) : Prop := ∃ x2, Vq w c x w' x2 ∧ x2.cl ≤ x.cl + rs.length ∧
  ((perrs c.lim e s 0 48 rs = 0 ∧ x2.o = (stA c.ms e s at' rs.length x.o rs).1 ∧ ∃ (X : Option Addr) (cX : Nat) (gs : List Pt), r = .returned (.tuple #[.slice X rs.length cX, .int .i64 0]) ∧ gs.map Pt.two = (stA c.ms e s at' rs.length x.o rs).2 ∧ Parts w' x2.P X gs ∧ (X = none → cX = 0) ∧ rs.length ≤ cX ∧ cX ≤ maxLen) ∨
   (perrs c.lim e s 0 48 rs ≠ 0 ∧ x2.o = lft c.ms e s at' x.o rs (bad c.lim e s 0 48 rs) ∧ r = .returned (.tuple #[.slice none 0 0, .int .i64 (perrs c.lim e s 0 48 rs)])))
set_option maxHeartbeats 4000000 in
set_option maxRecDepth 100000 in
theorem sealed_c [Inhabited Sha.ShaTab] [Inhabited Field.SqTab] (c : Vc) (x : Vt) (e s : Int) (at' : List UInt8) (A : Option Addr) (m d : Nat) (rs : List Rec) (w : World) (hx : Vx w c x) (h32 : at'.length = 32) (hl : rs.length = m) (hr : Rrow w A rs) (hfar : rs = [] ∨ ∀ i, ab A = some i → ¬ x.P i)
    (hm : m ≤ 1000) (hb : ∀ r ∈ rs, r.body.length ≤ 4096) (hf : x.o.few 10000) (hlo : x.o.long) (hcl : x.cl ≤ 1000000) (he : -9223372036854775808 ≤ e ∧ e ≤ 9223372036854775807) (hs : -9223372036854775808 ≤ s ∧ s ≤ 9223372036854775807) (hlim : c.lim ≤ 9223372036854775807) :
    Calls Tryz.prog 45 #[.pointer (some ⟨c.v, 0, none⟩), .int .i64 e, .int .i64 s, .agg (bvs at').toArray, .slice A m d] w (SealP c x e s at' rs w) := by
  have HB := Lib.hid (Blk.new w 32 (bvs at'))
  have HK := Lib.hid ((Kp.refl nob w).alloc (.cells (bvs at').toArray 32))
  have HS := Lib.hid (fun w' => size_c none 0 0 [] w' rfl (Row.nil _ _) (by rw [Rec.ftot_nil]; omega) (by omega))
  rw [Rec.ftot_nil] at HS
  have HX := Lib.hid hx
  have HR := Lib.hid hr
  have HFAR := Lib.hid hfar
  have HL := Lib.hid hl
  have H32 := Lib.hid h32
  have HBD := Lib.hid hb
  have HF := Lib.hid (And.intro hf (And.intro hlo (And.intro hcl hlim)))
  have HES := Lib.hid (And.intro he hs)
  have HM := Lib.hid hm
  clear hx hr hfar hl h32 hb hf hlo hcl hlim he hs
  go_enter Tryz.func45, Tryz.ntmps45
  go_wp2_with (first | (go_at_call 11; refine (HS.out _).mono ?_; rintro r w1 ⟨rfl, k1⟩) | fail)
  have HK1 := Lib.hid (HK.out.trans k1 (fun _ e => e.elim))
  have HB1 := Lib.hid (HB.out.keep k1 (fun e => e))
  clear k1
  go_loopw [12, 13, 22] (fun ps sz i wr => ∃ k : Nat, k ≤ m ∧ i = .int .i64 k ∧ sz = .int .i64 (ftot (rs.take k) : Nat) ∧ ∃ (x2 : Vt) (Z : Option Addr) (cz : Nat) (gs : List Pt), ps = .slice Z k cz ∧ SL w c x e s at' rs k wr x2 Z cz gs)
    (fun _ _ i _ => m - (intOf i).toNat)
  case atStart => exact ⟨0, Nat.zero_le _, rfl, rfl, x, none, 0, [], rfl, SL.start HX.out HK1.out HB1.out⟩
  case round =>
    obtain ⟨k, hk, rfl, rfl, x2, Z, cz, gs, rfl, hsl⟩ := hrel
    by_cases hlt : k < m
    · have hk2 : k < rs.length := by rw [HL.out]; exact hlt
      have HRk : Rrow wr A rs := by
        rcases HFAR.out with e | e
        · rw [e] at hk2; simp at hk2
        · exact HR.out.keep hsl.q.kp e
      obtain ⟨bb, oo, rfl, hbb, hc0, hc1, hc2, hc3, hc4, hc5⟩ := HRk.at_ (i := k) hk2
      have hsn := ftot_snoc rs k hk2
      have HSL := Lib.hid hsl
      obtain ⟨p, hpe⟩ : ∃ p, p = rs[k]'hk2 := ⟨_, rfl⟩
      obtain ⟨T, hTe⟩ : ∃ T, T = ftot (rs.take k) := ⟨_, rfl⟩
      rw [← hpe] at hc0 hc1 hc2 hc3 hc4 hc5 hsn
      rw [← hTe] at hsn ⊢
      have hTb : T ≤ 5000000 := by
        have h1 := ftot_le5 rs HBD.out
        have h2 := ftot_take rs k
        have := HL.out; have := HM.out
        omega
      have HBp := Lib.hid (HBD.out p (by rw [hpe]; exact List.getElem_mem hk2))
      have HP := Lib.hid (And.intro hpe (And.intro hTe hsn))
      clear hsl hpe hTe hsn HRk
      have HKA := Lib.hid ((Kp.refl nob wr).alloc (.cells #[.int .i64 p.kind, .int .i64 p.queue, .int .i64 p.id, .int .i64 p.num, .int .i64 p.wait, .string (str p.body)] 34))
      have HBA := Lib.hid (Blk.new wr 34 (rcells p))
      cases hg : good p with
      | false =>
        have hE : perr1 c.lim e s k (ftot (rs.take k)) rs[k] = 1 := by unfold perr1; rw [if_pos (by rw [← HP.out.1]; exact hg)]
        have HE := Lib.hid (HSL.out.bad1 hk2 hE (by omega))
        have HEO := Lib.hid (end1_no c.ms x2.o (ftot (rs.take k)) rs[k] (.inl (by rw [← HP.out.1]; exact hg)))
        have HPUT := Lib.hid (fun w' => put_no p w' (by have := HBp.out; omega) hg)
        clear hE hg
        go_wp2_with fail
        refine (HPUT.out _).mono ?_
        rintro r w3 ⟨rfl, k3⟩
        have HK3 := Lib.hid (HKA.out.trans k3 (fun _ e => e.elim))
        clear k3
        go_wp2
        go_ret2
        exact ⟨x2, HSL.out.q.over0 HK3.out, by have := HSL.out.cl; omega, .inr ⟨by rw [HE.out.1]; omega, by rw [HE.out.2, HEO.out], by rw [HE.out.1]; rfl⟩⟩
      | true =>
        have HG := Lib.hid hg
        have HPUT := Lib.hid (fun w' => put_yes p w' hg)
        clear hg
        go_wp2_with fail
        refine (HPUT.out _).mono ?_
        rintro r w3 ⟨A5, c5, rfl, ho5, hf5, k3⟩
        have HK3 := Lib.hid (HKA.out.trans k3 (fun _ e => e.elim))
        have HB3 := Lib.hid (HBA.out.keep k3 (fun e => e))
        have HO5 := Lib.hid (And.intro ho5 hf5)
        clear k3 ho5 hf5 HKA HBA HPUT
        have hpb := HBp.out
        by_cases hbig : 16384 < T + 63 + p.body.length
        · have hE : perr1 c.lim e s k (ftot (rs.take k)) rs[k] = 3 := by unfold perr1; rw [← HP.out.1, ← HP.out.2.1, if_neg (by rw [HG.out]; simp), if_pos hbig]
          have HE := Lib.hid (HSL.out.bad1 hk2 hE (by omega))
          have HEO := Lib.hid (end1_no c.ms x2.o (ftot (rs.take k)) rs[k] (.inr (by rw [← HP.out.1, ← HP.out.2.1]; exact hbig)))
          clear hE
          have hb2 : (16384 : Int) < (T : Int) + (27 + (36 + (p.body.length : Int))) := by omega
          go_wp2
          go_ret2
          exact ⟨x2, HSL.out.q.over0 HK3.out, by have := HSL.out.cl; omega, .inr ⟨by rw [HE.out.1]; omega, by rw [HE.out.2, HEO.out], by rw [HE.out.1]; rfl⟩⟩
        have hsm : T + 63 + p.body.length ≤ 16384 := by omega
        have hb2 : (T : Int) + (27 + (36 + (p.body.length : Int))) ≤ 16384 := by omega
        clear hbig
        have hsq := HSL.out.sq
        have hli := HF.out.2.2.2
        have hes := HES.out
        have HAD : Hid (IntKind.i64.wrap (s + (k : Int)) = s + (k : Int)) := Lib.hid (by rw [IntWalk.i64_in _ (by omega)])
        have HRF : Hid (refu c.lim e (s + (k : Int)) = perr1 c.lim e s k (ftot (rs.take k)) rs[k]) := Lib.hid (by rw [← HP.out.1, ← HP.out.2.1]; exact refu_perr c.lim e s k T p HG.out hsm hsq)
        clear hsq hli hes
        go_wp2
        have HK3d := Lib.hid HK3.out.drew
        have hrl := HSL.out.q.now.lt
        have HN1 : Hid (¬ x2.P wr.heap.size) := Lib.hid (fun e => by have := hrl _ e; omega)
        clear hrl
        refine reg_begin (fun w' => Blk w' wr.heap.size 34 (rcells p) ∧ Blk w' w.heap.size 32 (bvs at')) (by kernel_rfl) ⟨HB3.out.keep (Kp.refl nob _).drew (fun e => e), HSL.out.at_.keep HK3d.out (fun e => e)⟩ (fun hS0 => ?_)
        refine reg_take (v := .pointer (some ⟨c.v, 0, none⟩)) 0 (some 43) rfl rfl (by kernel_rfl) (by kernel_rfl) (by kernel_rfl) (by rfl) hS0 (fun w' hw => by go_simp) ?_
        simp only [Act.put, List.setIfInBounds_toArray, List.set_cons_zero, List.set_cons_succ]
        refine reg_take (v := .pointer (some ⟨c.v, 0, none⟩)) 1 (some 44) rfl rfl (by kernel_rfl) (by kernel_rfl) (by kernel_rfl) (by rfl) hS0 (fun w' hw => by go_simp) ?_
        simp only [Act.put, List.setIfInBounds_toArray, List.set_cons_zero, List.set_cons_succ]
        refine reg_take (v := .pointer (some ⟨wr.heap.size, 1, none⟩)) 2 (some 45) rfl rfl (by kernel_rfl) (by kernel_rfl) (by kernel_rfl) (by rfl) hS0 (fun w' hw => by go_simp) ?_
        simp only [Act.put, List.setIfInBounds_toArray, List.set_cons_zero, List.set_cons_succ]
        refine reg_take (v := .int .i64 p.queue) 3 (some 46) rfl rfl (by kernel_rfl) (by kernel_rfl) (by kernel_rfl) (by rfl) hS0 (fun w' hw => by have hc : w'.cell? ⟨wr.heap.size, 1, none⟩ = some (.int .i64 p.queue) := hw.1.cell 1; go_simp) ?_
        simp only [Act.put, List.setIfInBounds_toArray, List.set_cons_zero, List.set_cons_succ]
        refine reg_take (v := .int .i64 e) 5 (some 48) rfl rfl (by kernel_rfl) (by kernel_rfl) (by kernel_rfl) (by rfl) hS0 (fun w' hw => by go_simp) ?_
        simp only [Act.put, List.setIfInBounds_toArray, List.set_cons_zero, List.set_cons_succ]
        refine reg_take (v := .int .i64 s) 6 (some 49) rfl rfl (by kernel_rfl) (by kernel_rfl) (by kernel_rfl) (by rfl) hS0 (fun w' hw => by go_simp) ?_
        simp only [Act.put, List.setIfInBounds_toArray, List.set_cons_zero, List.set_cons_succ]
        refine reg_take (v := .int .i64 (k : Nat)) 7 (some 50) rfl rfl (by kernel_rfl) (by kernel_rfl) (by kernel_rfl) (by rfl) hS0 (fun w' hw => by go_simp) ?_
        simp only [Act.put, List.setIfInBounds_toArray, List.set_cons_zero, List.set_cons_succ]
        refine reg_take (v := .int .i64 (s + (k : Nat))) 8 (some 51) rfl rfl (by kernel_rfl) (by kernel_rfl) (by kernel_rfl) (by rfl) hS0 (fun w' hw => by have hc := HAD.out; go_simp) ?_
        simp only [Act.put, List.setIfInBounds_toArray, List.set_cons_zero, List.set_cons_succ]
        refine reg_take (v := .slice A5 (36 + p.body.length) c5) 9 (some 52) rfl rfl (by kernel_rfl) (by kernel_rfl) (by kernel_rfl) (by rfl) hS0 (fun w' hw => by go_simp) ?_
        simp only [Act.put, List.setIfInBounds_toArray, List.set_cons_zero, List.set_cons_succ]
        refine reg_load 10 (some 53) 32 (.tmp 8) rfl rfl rfl (by kernel_rfl) (by kernel_rfl) (by kernel_rfl) (by rfl) hS0 w.heap.size 0 rfl (bvs at') _ (fun w' hw => hw.2.range) rarr_under rfl (rarr_size at' H32.out) ?_
        simp only [Act.put, List.setIfInBounds_toArray, List.set_cons_zero, List.set_cons_succ]
        refine reg_take (v := .int .i64 (k : Nat)) 11 (some 54) rfl rfl (by kernel_rfl) (by kernel_rfl) (by kernel_rfl) (by rfl) hS0 (fun w' hw => by go_simp) ?_
        simp only [Act.put, List.setIfInBounds_toArray, List.set_cons_zero, List.set_cons_succ]
        refine reg_take (v := .slice (some ⟨bb, oo, none⟩) m d) 12 (some 55) rfl rfl (by kernel_rfl) (by kernel_rfl) (by kernel_rfl) (by rfl) hS0 (fun w' hw => by go_simp) ?_
        simp only [Act.put, List.setIfInBounds_toArray, List.set_cons_zero, List.set_cons_succ]
        refine reg_take (v := .int .i64 (m : Nat)) 13 (some 56) rfl rfl (by kernel_rfl) (by kernel_rfl) (by kernel_rfl) (by rfl) hS0 (fun w' hw => by go_simp) ?_
        simp only [Act.put, List.setIfInBounds_toArray, List.set_cons_zero, List.set_cons_succ]
        have HKd : Hid (Vx w3.drew c x2) := Lib.hid (HSL.out.q.now.keep0 HK3d.out)
        have hfew : x2.o.few 50000 := by
          rw [HSL.out.o_]
          exact (stA_few c.ms e s at' rs.length x.o (rs.take k) 10000 HF.out.1).mono (by rw [List.length_take]; have := HL.out; have := HM.out; omega)
        have hlong : x2.o.long := by rw [HSL.out.o_]; exact HF.out.2.1.sub (stA_from ..)
        have HFL := Lib.hid (And.intro hfew hlong)
        have hA5 : Arg w3.drew x2.P A5 (36 + p.body.length) c5 (recB p) := by
          have hl := recB_length p HBp.out
          have ho := (HO5.out.1.keep ((Kp.refl nob w3).drew) (fun _ _ e => e))
          exact ⟨hl, ho.row, .inr (fun i e hp => by have h1 := HO5.out.2 i e; simp at h1; have h2 := HSL.out.q.now.lt i hp; omega), ho.cap.1, ho.cap.2, own_none ho⟩
        have HA5 := Lib.hid hA5
        clear hA5
        refine reg_keyBes 4 14 15 47 57 58 _ _ _ _ _ 22 c x2 p.queue at' k m HKd.out (hfew.mono (by omega)) hlong H32.out rfl rfl rfl (by kernel_rfl) (by kernel_rfl) (by kernel_rfl) (by kernel_rfl) rfl (by kernel_rfl) (by kernel_rfl)
          (fun w' hk => ⟨hS0.1.keep hk HN1.out, hS0.2.keep hk HSL.out.af⟩) ?hk ?hb ?hs ?hfin
        case hk =>
          intro o a w' ho e0
          obtain rfl := oper_is ho rfl
          have h1 : a.eval (.tmp 44) = .pointer (some ⟨c.v, 0, none⟩) := e0 44 (by kernel_rfl)
          have h2 : a.eval (.tmp 46) = .int .i64 p.queue := e0 46 (by kernel_rfl)
          exact exec_func 21 _ _ [.pointer (some ⟨c.v, 0, none⟩), .int .i64 p.queue] rfl (by kernel_rfl) (by show [a.eval (.tmp 44), a.eval (.tmp 46)] = _; rw [h1, h2])
        case hb =>
          intro o a w' ho e0
          obtain rfl := oper_is ho rfl
          have h1 : a.eval (.tmp 53) = .agg (bvs at').toArray := e0 53 (by kernel_rfl)
          have h2 : a.eval (.tmp 54) = .int .i64 (k : Nat) := e0 54 (by kernel_rfl)
          have h3 : a.eval (.tmp 56) = .int .i64 (m : Nat) := e0 56 (by kernel_rfl)
          exact exec_func 66 _ _ [.agg (bvs at').toArray, .int .i64 (k : Nat), .int .i64 (m : Nat)] rfl (by kernel_rfl) (by show [a.eval (.tmp 53), a.eval (.tmp 54), a.eval (.tmp 56)] = _; rw [h1, h2, h3])
        case hs => intro o ho; obtain rfl := oper_is ho rfl; rfl
        case hfin =>
          intro F2 P2 w4 A6 c6 g hq hargs
          simp only [Act.put, List.setIfInBounds_toArray, List.set_cons_zero, List.set_cons_succ]
          obtain ⟨key, hkey⟩ : ∃ key, key = x2.o.val (keyT c.ms p.queue) 32 := ⟨_, rfl⟩
          have hkl : key.length = 32 := by rw [hkey]; exact HFL.out.2.len _ (.inr (.inr rfl))
          rw [← hkey]
          have HQ4 := Lib.hid ((HSL.out.q.over0 HK3d.out).trans hq)
          have hS4 : Blk w4 wr.heap.size 34 (rcells p) ∧ Blk w4 w.heap.size 32 (bvs at') := ⟨hS0.1.keep hq.kp HN1.out, hS0.2.keep hq.kp HSL.out.af⟩
          have HN4 : Hid (¬ P2 wr.heap.size ∧ ¬ P2 w.heap.size) := Lib.hid ⟨hq.old HN1.out hS0.1.lt, hq.old HSL.out.af hS0.2.lt⟩
          have HA4 := Lib.hid (hq.arg HA5.out)
          have HAR := Lib.hid hargs
          have HXq := Lib.hid hq
          have HKEY := Lib.hid (And.intro hkey hkl)
          have hcat : Sha.catP [⟨A6, 48, c6, besT at' k m⟩] = besT at' k m := by simp [Sha.catP]
          have HCAT := Lib.hid hcat
          clear hcat hkey hkl hargs hq
          obtain ⟨E, hE⟩ : ∃ E, E = refu c.lim e (s + (k : Int)) := ⟨_, rfl⟩
          have HE := Lib.hid hE
          have hEr : 0 ≤ E ∧ E ≤ 10 := by rw [hE, HRF.out]; exact perr1_range ..
          by_cases hrf : E = 0
          · have hrl := recB_length p HBp.out
            have hcall := seal_v c ⟨F2, P2, x2.o.nx (keyT c.ms p.queue), x2.sl, x2.cl⟩ key HKEY.out.2 e (s + (k : Int)) A5 (36 + p.body.length) c5 (recB p) (some ⟨g, 0, none⟩) 1 1 _ w4 HXq.out.now HA4.out HAR.out ((HFL.out.1.nx _).mono (by omega)) (by rw [hrl]; omega) (by rw [HCAT.out, bes_length _ _ _ H32.out]; omega) (by have h1 := HSL.out.cl; have h2 := HF.out.2.2.1; simp only; omega) (by rw [← hE]; exact hrf)
            rw [HCAT.out, hrl] at hcall
            obtain ⟨t, ht⟩ : ∃ t, t = sealT key (nonce e (s + (k : Int))) (besT at' k m) (recB p) := ⟨_, rfl⟩
            rw [← ht] at hcall
            obtain ⟨b, hb⟩ : ∃ b, b = (x2.o.nx (keyT c.ms p.queue)).val t (36 + p.body.length + 16) := ⟨_, rfl⟩
            have hbl : b.length = 36 + p.body.length + 16 := by
              rw [hb, ht, ← hrl]
              exact (HFL.out.2.nx _).seal_ ..
            rw [← hb] at hcall
            have HT := Lib.hid (And.intro ht (And.intro hb (And.intro hbl hrl)))
            clear ht hb hbl hrl
            refine reg_call 16 (some 59) rfl rfl (by kernel_rfl) (by rfl) _ _ (exec_func 65 _ _ [.pointer (some ⟨c.v, 0, none⟩), .agg (bvs key).toArray, .int .i64 e, .int .i64 (s + (k : Nat)), .slice A5 (36 + p.body.length) c5, .slice (some ⟨g, 0, none⟩) 1 1] rfl (by kernel_rfl) rfl) ?_
            refine hcall.mono ?_
            rintro r w5 ⟨F3, P3, X, cX, rfl, q5, hans⟩
            have hS5 : Blk w5 wr.heap.size 34 (rcells p) ∧ Blk w5 w.heap.size 32 (bvs at') := ⟨q5.blk hS4.1 HN4.out.1, q5.blk hS4.2 HN4.out.2⟩
            have HQ5 := Lib.hid q5
            have HANS := Lib.hid hans
            clear q5 hans hcall
            refine ⟨_, rfl, hS5, fun _ => ?_⟩
            simp only [Act.put, List.setIfInBounds_toArray, List.set_cons_zero, List.set_cons_succ]
            refine reg_take (v := .tuple #[.slice X (36 + p.body.length + 16) cX, .int .i64 0]) 17 (some 42) rfl rfl (by kernel_rfl) (by kernel_rfl) (by kernel_rfl) (by rfl) hS5 (fun w' hw => by go_simp) ?_
            simp only [Act.put, List.setIfInBounds_toArray, List.set_cons_zero, List.set_cons_succ]
            refine reg_take (v := .slice X (36 + p.body.length + 16) cX) 18 (some 60) rfl rfl (by kernel_rfl) (by kernel_rfl) (by kernel_rfl) (by rfl) hS5 (fun w' hw => by go_simp) ?_
            simp only [Act.put, List.setIfInBounds_toArray, List.set_cons_zero, List.set_cons_succ]
            refine reg_take (v := .int .i64 0) 19 (some 61) rfl rfl (by kernel_rfl) (by kernel_rfl) (by kernel_rfl) (by rfl) hS5 (fun w' hw => by go_simp) ?_
            simp only [Act.put, List.setIfInBounds_toArray, List.set_cons_zero, List.set_cons_succ]
            refine reg_take (v := .slice X (36 + p.body.length + 16) cX) 20 (some 18) rfl rfl (by kernel_rfl) (by kernel_rfl) (by kernel_rfl) (by rfl) hS5 (fun w' hw => by go_simp) ?_
            simp only [Act.put, List.setIfInBounds_toArray, List.set_cons_zero, List.set_cons_succ]
            refine reg_take (v := .int .i64 0) 21 (some 17) rfl rfl (by kernel_rfl) (by kernel_rfl) (by kernel_rfl) (by rfl) hS5 (fun w' hw => by go_simp) ?_
            simp only [Act.put, List.setIfInBounds_toArray, List.set_cons_zero, List.set_cons_succ]
            refine reg_end (by kernel_rfl) ?_
            have hc1 : w5.cell? ⟨wr.heap.size, 1, none⟩ = some (.int .i64 p.queue) := hS5.1.cell 1
            clear hS5 hS4 hS0
            obtain ⟨i0, hi1, hi2, hi3, hi4⟩ := info_parts3 part_info
            have HOWN := Lib.hid (fun o => HSL.out.own_ HK3d.out HXq.out HQ5.out ((Kp.refl nob w5).alloc o))
            go_wp2_with (first
              | (refine wpList_appKO_gd _ (.tmp 65) (.tmp 70) 84 rfl (by rfl) 2 (by decide) 128 i0 _ 32 part_under hi1 hi2 hi3 hi4 rfl Z k cz (gs.flatMap Pt.cells) rfl (HOWN.out _) (some ⟨w5.heap.size, 0, none⟩) 1 1 (Pt.cells ⟨p.queue, X, cX, b⟩) rfl (fun e => by cases e) rfl (by
                  have := row_new w5 (Pt.cells ⟨p.queue, X, cX, b⟩) 128
                  unfold Pt.cells at this ⊢
                  rw [HT.out.2.2.1] at this ⊢
                  exact this) (fun u hu => by unfold Pt.cells at hu; simp only [List.mem_cons, List.not_mem_nil, or_false] at hu; rcases hu with rfl | rfl <;> rfl) (by omega) (by simp [maxLen]; omega) ?_
                 intro Z2 cz2 w7 ho2 hg2 hz2)
              | fail)
            have ht2 : t = stT c.ms e s at' rs.length x2.o k p := by
              rw [HT.out.1, HKEY.out.1, ← HL.out]; rfl
            have hq5 := HQ5.out
            have hans := HANS.out
            have hb2 := HT.out.2.1
            have hbn : b ≠ [] := fun e0 => by have h0 := HT.out.2.2.1; rw [e0] at h0; simp at h0
            rw [ht2] at hq5 hb2
            have HNX := Lib.hid (HSL.out.more HX.out hk2 p HP.out.1 (by rw [← HRF.out, ← hE]; exact hrf) HK3d.out HXq.out hq5 (Nat.add_le_add_left (clash_le _ _ _) _) hans (by rw [HT.out.2.2.2]; exact hb2) hbn ((Kp.refl nob w5).alloc _) ho2 ((Kp.refl _ _).grown hg2 (fun j e => .inl e)) hz2)
            clear ht2 hq5 hans hb2 hbn ho2 hg2 hz2
            go_wp2
            go_roundw
            case rel => exact ⟨k + 1, by omega, by go_num, by rw [HP.out.2.2]; go_num, _, Z2, cz2, _, rfl, HNX.out⟩
            case measure => simp [intOf]; omega
          · have hcall := seal_vno c ⟨F2, P2, x2.o.nx (keyT c.ms p.queue), x2.sl, x2.cl⟩ key e (s + (k : Int)) (.slice A5 (36 + p.body.length) c5) (.slice (some ⟨g, 0, none⟩) 1 1) w4 HXq.out.now (by rw [← hE]; exact hrf)
            rw [← hE] at hcall
            refine reg_call 16 (some 59) rfl rfl (by kernel_rfl) (by rfl) _ _ (exec_func 65 _ _ [.pointer (some ⟨c.v, 0, none⟩), .agg (bvs key).toArray, .int .i64 e, .int .i64 (s + (k : Nat)), .slice A5 (36 + p.body.length) c5, .slice (some ⟨g, 0, none⟩) 1 1] rfl (by kernel_rfl) rfl) ?_
            refine hcall.mono ?_
            rintro r w5 ⟨rfl, k5⟩
            have hS5 : Blk w5 wr.heap.size 34 (rcells p) ∧ Blk w5 w.heap.size 32 (bvs at') := ⟨hS4.1.keep k5 (fun e => e), hS4.2.keep k5 (fun e => e)⟩
            have HQ5 := Lib.hid (HQ4.out.over0 k5)
            clear k5 hcall
            refine ⟨_, rfl, hS5, fun _ => ?_⟩
            simp only [Act.put, List.setIfInBounds_toArray, List.set_cons_zero, List.set_cons_succ]
            refine reg_take (v := .tuple #[.slice none 0 0, .int .i64 E]) 17 (some 42) rfl rfl (by kernel_rfl) (by kernel_rfl) (by kernel_rfl) (by rfl) hS5 (fun w' hw => by go_simp) ?_
            simp only [Act.put, List.setIfInBounds_toArray, List.set_cons_zero, List.set_cons_succ]
            refine reg_take (v := .slice none 0 0) 18 (some 60) rfl rfl (by kernel_rfl) (by kernel_rfl) (by kernel_rfl) (by rfl) hS5 (fun w' hw => by go_simp) ?_
            simp only [Act.put, List.setIfInBounds_toArray, List.set_cons_zero, List.set_cons_succ]
            refine reg_take (v := .int .i64 E) 19 (some 61) rfl rfl (by kernel_rfl) (by kernel_rfl) (by kernel_rfl) (by rfl) hS5 (fun w' hw => by go_simp) ?_
            simp only [Act.put, List.setIfInBounds_toArray, List.set_cons_zero, List.set_cons_succ]
            refine reg_take (v := .slice none 0 0) 20 (some 18) rfl rfl (by kernel_rfl) (by kernel_rfl) (by kernel_rfl) (by rfl) hS5 (fun w' hw => by go_simp) ?_
            simp only [Act.put, List.setIfInBounds_toArray, List.set_cons_zero, List.set_cons_succ]
            refine reg_take (v := .int .i64 E) 21 (some 17) rfl rfl (by kernel_rfl) (by kernel_rfl) (by kernel_rfl) (by rfl) hS5 (fun w' hw => by go_simp) ?_
            simp only [Act.put, List.setIfInBounds_toArray, List.set_cons_zero, List.set_cons_succ]
            refine reg_end (by kernel_rfl) ?_
            have HB1' := Lib.hid (HSL.out.bad1 hk2 (by rw [← HRF.out, ← HE.out]) hrf)
            have HEO := Lib.hid (end1_yes c.ms x2.o (ftot (rs.take k)) rs[k] (by rw [← HP.out.1]; exact HG.out) (by rw [← HP.out.1, ← HP.out.2.1]; exact hsm))
            have hb0 : (E != 0) = true := by simp; exact hrf
            clear hS5 hS4 hS0 hE
            go_wp2
            go_ret2
            exact ⟨_, HQ5.out, by have := HSL.out.cl; simp only; omega, .inr ⟨by rw [HB1'.out.1]; exact hrf, by rw [HB1'.out.2, HEO.out, ← HP.out.1], by rw [HB1'.out.1]; rfl⟩⟩
    · obtain rfl : k = m := by omega
      have HSL := Lib.hid hsl
      clear hsl
      go_wp2
      go_ret2
      have hk3 : rs.take k = rs := List.take_of_length_le (by rw [HL.out]; exact Nat.le_refl _)
      have h0 : perrs c.lim e s 0 48 rs = 0 := by rw [HSL.out.er, List.drop_of_length_le (by rw [HL.out]; exact Nat.le_refl _)]; rfl
      have ho := HSL.out.o_
      have htw := HSL.out.two
      rw [hk3] at ho htw
      refine ⟨x2, HSL.out.q, by rw [HL.out]; exact HSL.out.cl, .inl ⟨h0, ho, Z, cz, gs, by rw [HL.out]; rfl, htw, ⟨HSL.out.own.row, .inr (fun i e => (HSL.out.zf i e).2), HSL.out.arg⟩, OwnZ.none_ HSL.out.own, by rw [HL.out]; exact HSL.out.own.cap.1, HSL.out.own.cap.2⟩⟩
end Go.Proofs.YtiimfhacnfdmhaaGreat.Seg
