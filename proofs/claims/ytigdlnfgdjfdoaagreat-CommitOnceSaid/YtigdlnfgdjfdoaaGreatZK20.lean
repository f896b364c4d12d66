/- Lemmas: CutK SegLn ChaX ChaG. -/
import Derived.Test.YtigdlnfgdjfdoaaGreatZK18
import Derived.Test.YtigdlnfgdjfdoaaGreatZK21
set_option maxHeartbeats 4000000
set_option maxRecDepth 100000
set_option linter.unusedVariables false
set_option linter.unusedSimpArgs false
namespace Go.Proofs.YtigdlnfgdjfdoaaGreat
namespace Kit
open Go Go.RowKit
def cutK (A : Option Addr) (c k z : Nat) : Option Addr := if c = k then A else A.map (·.add (k * z))
theorem ab_cutK (A : Option Addr) (c k z : Nat) : ab (cutK A c k z) = ab A := by
 unfold cutK
 split
 · rfl
 · cases A with
   | none => rfl
   | some a => simp [ab, Addr.add]; split <;> rfl
theorem Row.cutK {w : World} {A : Option Addr} {xs : List Value} (h : Row w A xs) {c k z : Nat} (hl : xs.length ≤ c * z) : Row w (cutK A c k z) (xs.drop (k * z)) := by
 unfold Kit.cutK
 split
 · rename_i e; subst e; rw [List.drop_eq_nil_of_le hl]; exact Row.nil _ _
 · exact h.drop (k * z)
theorem run_toK {P : Program} (t e : TypeId) (z : Nat) (ht : P.underlying t = some (.slice e)) (hz : ∀ w, (sizeOf e).run P w = .ok z w) (A : Option Addr) (n c k : Nat) (hk : k ≤ n) (hc : n ≤ c) (w : World) : (Instr.slice t (.slice A n c) none (some (.int .i64 k)) none).run P w = .ok (.slice A k c) w := by
 have h1 : (0 : Int) ≤ k ∧ (k : Int) ≤ c := by omega
 have he := hz w
 cases A with
 | none => simp [Instr.slice, run_underlying ht, Instr.sliceBounds, run_sliceBound, he, h1]
 | some a =>
   have h3 : a.add 0 = a := rfl
   simp [Instr.slice, run_underlying ht, Instr.sliceBounds, run_sliceBound, he, h1, h3]
theorem run_fromK {P : Program} (t e : TypeId) (z : Nat) (ht : P.underlying t = some (.slice e)) (hz : ∀ w, (sizeOf e).run P w = .ok z w) (A : Option Addr) (n c k : Nat) (hk : k ≤ n) (w : World) : (Instr.slice t (.slice A n c) (some (.int .i64 k)) none none).run P w = .ok (.slice (cutK A c k z) (n - k) (c - k)) w := by
 have h1 : (0 : Int) ≤ k ∧ (k : Int) ≤ n := by omega
 have he := hz w
 simp [Instr.slice, run_underlying ht, Instr.sliceBounds, run_sliceBound, he, cutK, hk]
theorem exec_toK {P : Program} (t e : TypeId) (z : Nat) (ht : P.underlying t = some (.slice e)) (hz : ∀ w, (sizeOf e).run P w = .ok z w) {w : World} {a : Act} {o : Oper} (x y : Operand) (ho : o.op = .slice t x none (some y) none) (A : Option Addr) (n c k : Nat) (hx : a.eval x = .slice A n c) (hy : a.eval y = .int .i64 k) (hk : k ≤ n) (hc : n ≤ c) :
    (execOp a.eval o).run P w = .ok (.value (.slice A k c)) w := by
 have hr : (Instr.sliceAt t (.slice A n c) none (some (.int .i64 k)) none).run P w = .ok (.slice A k c) w := by
  have := run_toK t e z ht hz A n c k hk hc w
  unfold Instr.sliceAt
  simpa [run_underlying ht] using this
 unfold execOp
 simp only [ho, hx, hy, Option.map_some, Option.map_none, Sem.run_bind, hr, Result.andThen_ok, Sem.run_pure]
theorem exec_fromK {P : Program} (t e : TypeId) (z : Nat) (ht : P.underlying t = some (.slice e)) (hz : ∀ w, (sizeOf e).run P w = .ok z w) {w : World} {a : Act} {o : Oper} (x y : Operand) (ho : o.op = .slice t x (some y) none none) (A : Option Addr) (n c k : Nat) (hx : a.eval x = .slice A n c) (hy : a.eval y = .int .i64 k) (hk : k ≤ n) :
    (execOp a.eval o).run P w = .ok (.value (.slice (cutK A c k z) (n - k) (c - k))) w := by
 have hr : (Instr.sliceAt t (.slice A n c) (some (.int .i64 k)) none none).run P w = .ok (.slice (cutK A c k z) (n - k) (c - k)) w := by
  have := run_fromK t e z ht hz A n c k hk w
  unfold Instr.sliceAt
  simpa [run_underlying ht] using this
 unfold execOp
 simp only [ho, hx, hy, Option.map_some, Option.map_none, Sem.run_bind, hr, Result.andThen_ok, Sem.run_pure]
def Lrow (w : World) (A : Option Addr) (ls : List (List UInt8)) : Prop := Row w A (ls.flatMap bvs)
theorem Lrow.keep {F : Nat → Prop} {w w' : World} {A : Option Addr} {ls : List (List UInt8)} (h : Lrow w A ls) (k : Kp F w w') (hf : ls = [] ∨ ∀ i, ab A = some i → ¬ F i) : Lrow w' A ls := by
 rcases hf with e | e
 · subst e; exact Row.nil _ _
 · exact Row.keep h k e
theorem Lrow.keep0 {w w' : World} {A : Option Addr} {ls : List (List UInt8)} (h : Lrow w A ls) (k : Kp nob w w') : Lrow w' A ls := Row.keep0 h k
theorem Lrow.take {w : World} {A : Option Addr} {ls : List (List UInt8)} (h : Lrow w A ls) (h32 : ∀ d ∈ ls, d.length = 32) (k : Nat) : Lrow w A (ls.take k) := by
 unfold Lrow at *
 rw [← fm_take (k := 32) ls (fun a ha => by rw [bvs_length]; exact h32 a ha)]
 exact Row.take h (k * 32)
theorem Lrow.drop {w : World} {A : Option Addr} {ls : List (List UInt8)} (h : Lrow w A ls) (h32 : ∀ d ∈ ls, d.length = 32) (c k : Nat) (hl : ls.length ≤ c) : Lrow w (cutK A c k 32) (ls.drop k) := by
 unfold Lrow at *
 rw [← fm_drop (k := 32) ls (fun a ha => by rw [bvs_length]; exact h32 a ha)]
 exact Row.cutK h (by rw [fm_length (k := 32) ls (fun a ha => by rw [bvs_length]; exact h32 a ha)]; omega)
theorem Lrow.lt {w : World} {A : Option Addr} {ls : List (List UInt8)} (h : Lrow w A ls) (h32 : ∀ d ∈ ls, d.length = 32) (hn : ls ≠ []) : ∀ i, ab A = some i → i < w.heap.size :=
 Row.lt h (fun e => by
  have := congrArg List.length e
  rw [fm_length (k := 32) ls (fun a ha => by rw [bvs_length]; exact h32 a ha)] at this
  have : 0 < ls.length := List.length_pos_iff.2 hn
  simp only [List.length_nil] at *
  omega)
theorem Lrow.rng {w : World} {A : Option Addr} {ls : List (List UInt8)} (h : Lrow w A ls) (h32 : ∀ d ∈ ls, d.length = 32) {i : Nat} (hi : i < ls.length) : ∃ b o, A = some ⟨b, o, none⟩ ∧ w.rangeAt b (o + i * 32) (bvs ls[i]) := by
 have hf := fm_length (k := 32) (f := bvs) ls (fun a ha => by rw [bvs_length]; exact h32 a ha)
 rcases h with h | ⟨b, o, rfl, hb, hc⟩
 · have := congrArg List.length h
   rw [hf] at this
   simp only [List.length_nil] at this; omega
 · refine ⟨b, o, rfl, fun j u hu => ?_⟩
   have hj : j < 32 := by have := (List.getElem?_eq_some_iff.1 hu).1; rw [bvs_length, h32 _ (List.getElem_mem hi)] at this; exact this
   have e := fm_at (k := 32) (f := bvs) ls (fun a ha => by rw [bvs_length]; exact h32 a ha) i j ls[i] (List.getElem?_eq_getElem hi) hj
   rw [hu] at e
   rw [Nat.add_assoc]
   exact hc _ _ e
end Kit
namespace Disk
open Go Go.RowKit Kit
theorem flen_in (l : List UInt8) : ∃ v : Nat, (sIn (l.take 8, false) 48 16384).1 = (v : Int) ∧ v ≤ 16384 ∧ flen l = if l.length < v then 0 else v := by
 have hc := fnum_cases (l.take 8)
 have hi := flen_int l
 have he : fnum l = fnum (l.take 8) := by
  by_cases h8 : 8 ≤ l.length
  · have h := fnum_more (l.take 8) (l.drop 8) (by rw [List.length_take]; omega)
    rw [List.take_append_drop] at h
    exact h
  · rw [List.take_of_length_le (by omega)]
 rw [he] at hi
 rw [fnum_eq] at hc hi
 obtain ⟨x, hx⟩ : ∃ x, x = (sIn (l.take 8, false) 48 16384).1 := ⟨_, rfl⟩
 rw [← hx] at hc hi ⊢
 refine ⟨x.toNat, by omega, by omega, ?_⟩
 by_cases hl : l.length < x.toNat
 · rw [if_pos hl]
   rw [if_pos (by omega)] at hi; omega
 · rw [if_neg hl]
   rw [if_neg (by omega)] at hi; omega
theorem length_c (A : Option Addr) (n c : Nat) (l : List UInt8) (w : World) (hn : l.length = n) (hr : Row w A (bvs l)) (hl : n ≤ 1099511627776) (hA : A = none → c = 0) (hc : n ≤ c) (hcm : c ≤ maxLen) :
    Calls Tryz.prog 86 #[.slice A n c] w fun e w' => e = .returned (.int .i64 (flen l : Nat)) ∧ Kp nob w w' := by
 unfold maxLen at hcm
 obtain ⟨v, hv, hv2, hv3⟩ := flen_in l
 have HL : Hid (flen l = if n < v then 0 else v) := Lib.hid (by rw [← hn]; exact hv3)
 have main : ∀ k : Nat, k = min 8 n → ∀ w', Kp nob w w' → Calls Tryz.prog 101 #[.slice A k c] w' fun e w' => ∃ b A', e = .returned (.pointer (some ⟨b, 0, none⟩)) ∧ IsR w' b A' (l.take 8) false ∧ Kp nob w w' ∧ (∀ k, WF b A' k → w.heap.size ≤ k) := by
  intro k hk w' kw
  have hrow : Row w' A (bvs (l.take 8)) := by
   have := (hr.keep0 kw).take 8
   rw [bvs, List.map_take]; exact this
  refine (rRead A k c (l.take 8) w' (by rw [List.length_take]; omega) (by omega) hA hrow).mono ?_
  rintro e w2 ⟨b, A', rfl, h1, h2, h3⟩
  exact ⟨b, A', rfl, h1, kw.trans h2 (fun _ e => e.elim), fun i e => Nat.le_trans kw.size (h3 i e)⟩
 have HM := Lib.hid main
 have HI := Lib.hid (fun (b : Nat) (A' : Option Addr) (w' : World) (h : IsR w' b A' (l.take 8) false) => rIn b A' (l.take 8, false) 48 16384 w' h)
 rw [hv] at HI
 have HN := Lib.hid hn
 clear main hv hv3 hr hn
 have hn64 : (n : Int) ≤ 9223372036854775807 := by omega
 by_cases h8 : n ≤ 8
 · have hmin : min (n : Int) 8 = (n : Int) := by omega
   have HK : Hid (n = min 8 n) := Lib.hid (by omega)
   go_enter Tryz.func86, Tryz.ntmps86
   go_wp2_with (first
    | (go_at_call 101; refine (HM.out n HK.out _ (Kp.refl _ _)).mono ?_; rintro e w2 ⟨b, A', rfl, h1, k2, h3⟩)
    | (go_at_call 102; refine (HI.out b A' _ h1).mono ?_; rintro e w3 ⟨rfl, A3, h4, k3, h5⟩; have HK3 : Hid (Kp nob w w3) := Lib.hid (k2.trans k3 (fun i e => .inr (h3 i (.inl e)))); clear h1 k2 h3 h4 k3 h5)
    | fail)
   go_wp2
   all_goals
    go_ret
    refine ⟨?_, HK3.out⟩
    rw [HL.out]
    first
     | (rw [if_pos (by omega)]; rfl)
     | (rw [if_neg (by omega)]; rfl)
 · have h8b : 8 < n := by omega
   have hmin : min (n : Int) 8 = 8 := by omega
   have h8c : (8 : Int) ≤ (c : Int) := by omega
   have HK : Hid (8 = min 8 n) := Lib.hid (by omega)
   go_enter Tryz.func86, Tryz.ntmps86
   go_wp2_with (first
    | (go_at_call 101; refine (HM.out 8 HK.out _ (Kp.refl _ _)).mono ?_; rintro e w2 ⟨b, A', rfl, h1, k2, h3⟩)
    | (go_at_call 102; refine (HI.out b A' _ h1).mono ?_; rintro e w3 ⟨rfl, A3, h4, k3, h5⟩; have HK3 : Hid (Kp nob w w3) := Lib.hid (k2.trans k3 (fun i e => .inr (h3 i (.inl e)))); clear h1 k2 h3 h4 k3 h5)
    | fail)
   go_wp2
   all_goals
    go_ret
    refine ⟨?_, HK3.out⟩
    rw [HL.out]
    first
     | (rw [if_pos (by omega)]; rfl)
     | (rw [if_neg (by omega)]; rfl)
def IsA (w : World) (a g : Nat) (A : Ar) : Prop := Blk w a 132 [.pointer (some ⟨g, 0, none⟩), .int .i64 (A.pos : Int), .int .i64 (A.top : Int)]
def areaP : AreaP where
 is := IsA
 lt := fun h => Blk.lt h
 keep := fun h k hF => Blk.keep h k hF
 disk := fun h => Blk.cell h 0
theorem IsA.cells {w : World} {a g : Nat} {A : Ar} (h : IsA w a g A) : w.cell? ⟨a, 0, none⟩ = some (.pointer (some ⟨g, 0, none⟩)) ∧ w.cell? ⟨a, 1, none⟩ = some (.int .i64 (A.pos : Int)) ∧ w.cell? ⟨a, 2, none⟩ = some (.int .i64 (A.top : Int)) :=
 ⟨h.cell 0, h.cell 1, h.cell 2⟩
theorem half_c : HalfC areaP := by
 intro D g N S W cW epoch w hd he
 have HS := Lib.hid (fun w' (k : Kp nob w w') => size_any D g N S W cW w' (hd.keep0 k))
 have hmx := hd.max
 obtain ⟨n, hn⟩ : ∃ n, n = D.now.length := ⟨_, rfl⟩
 rw [← hn] at HS hmx
 obtain ⟨h, hh⟩ : ∃ h, h = n / 2 := ⟨_, rfl⟩
 have e1 : (n : Int).tdiv 2 = (h : Int) := by rw [Int.tdiv_eq_ediv_of_nonneg (by omega)]; omega
 have e2 : IntKind.i64.wrap (h : Int) = (h : Int) := by rw [IntWalk.i64_in _ (by omega)]
 have e3 : IntKind.i64.wrap (2 * (h : Int)) = ((2 * h : Nat) : Int) := by rw [IntWalk.i64_in _ (by omega)]; omega
 have e4 : epoch.tmod 2 = epoch % 2 := Int.tmod_eq_emod_of_nonneg he.1
 have e5 : IntKind.i64.wrap (epoch % 2) = epoch % 2 := by rw [IntWalk.i64_in _ (by omega)]
 by_cases ho : epoch % 2 = 1
 · have HA : Hid (aHalf D.now.length (decide (epoch % 2 = 1)) = ⟨2 * h, h⟩) := Lib.hid (by rw [← hn, decide_eq_true ho, hh]; rfl)
   have HH := Lib.hid hh
   clear hd hn hh
   go_enter Tryz.func44, Tryz.ntmps44
   go_wp2_with fail
   refine (HS.out _ (Kp.refl _ _)).mono ?_
   rintro e w1 ⟨rfl, rfl⟩
   go_wp2
   go_ret
   refine ⟨w.heap.size, rfl, ?_, (Kp.refl _ _).alloc _, Nat.le_refl _⟩
   rw [HA.out]; exact Blk.new' rfl rfl
 · have hz : epoch % 2 = 0 := by omega
   have HA : Hid (aHalf D.now.length (decide (epoch % 2 = 1)) = ⟨h, 0⟩) := Lib.hid (by rw [← hn, decide_eq_false ho, hh]; rfl)
   have HH := Lib.hid hh
   clear hd hn hh ho
   go_enter Tryz.func44, Tryz.ntmps44
   go_wp2_with fail
   refine (HS.out _ (Kp.refl _ _)).mono ?_
   rintro e w1 ⟨rfl, rfl⟩
   go_wp2
   go_ret
   refine ⟨w.heap.size, rfl, ?_, (Kp.refl _ _).alloc _, Nat.le_refl _⟩
   rw [HA.out]; exact Blk.new' rfl rfl
theorem left_c : LeftC areaP := by
 intro a g A w h hp ht
 obtain ⟨c0, c1, c2⟩ := IsA.cells h
 have e1 : IntKind.i64.wrap ((A.top : Int) - (A.pos : Int)) = ((A.top - A.pos : Nat) : Int) := by rw [IntWalk.i64_in _ (by omega)]; omega
 have HK := Lib.hid (Kp.refl nob w)
 clear h hp ht c0
 go_enter Tryz.func47, Tryz.ntmps47
 go_wp2_with fail
 go_quiet (fail)
 go_wp2
 go_ret
 have k : Kp nob w (w.drewN nq) := ⟨rfl, rfl, rfl, Nat.le_refl _, fun _ _ _ => rfl⟩
 exact ⟨rfl, k⟩
def whyNot (D : Dk) (A : Ar) (s : List UInt8) : Int := if s.length = 0 ∨ flen s ≠ s.length then 1 else if D.off then 8 else if 256 * (A.top - A.pos) < s.length then 7 else 0
theorem refused_c (D : Dk) (g N S : Nat) (W : Option Addr) (cW a : Nat) (A : Ar) (X : Option Addr) (n c : Nat) (s : List UInt8) (w : World) (hd : Cd w g N S W cW D) (ha : IsA w a g A) (hp : A.pos ≤ A.top) (ht : A.top ≤ D.now.length)
    (hn : s.length = n) (hr : Row w X (bvs s)) (hc : n ≤ c) (hcm : c ≤ maxLen) (hX : X = none → c = 0) (hl : n ≤ 1048576) :
    Calls Tryz.prog 93 #[.pointer (some ⟨a, 0, none⟩), .slice X n c] w fun e w' => e = .returned (.int .i64 (whyNot D A s)) ∧ Kp nob w w' := by
 have HL := Lib.hid (length_c X n c s w hn hr (by omega) hX hc hcm)
 have hmx := hd.max
 have HD := Lib.hid hd
 have HA := Lib.hid ha
 have HLF := Lib.hid (fun w' (k : Kp nob w w') => left_c a g A w' (ha.keep k (fun e => e)) hp (by omega))
 obtain ⟨L, hL⟩ : ∃ L, L = A.top - A.pos := ⟨_, rfl⟩
 rw [← hL] at HLF
 have e1 : IntKind.i64.wrap ((L : Int) * 256) = ((256 * L : Nat) : Int) := by rw [IntWalk.i64_in _ (by omega)]; omega
 have HW : Hid (whyNot D A s = if n = 0 ∨ flen s ≠ n then 1 else if D.off then 8 else if 256 * L < n then 7 else 0) := Lib.hid (by unfold whyNot; rw [hn, hL])
 obtain ⟨v, hv⟩ : ∃ v, v = flen s := ⟨_, rfl⟩
 rw [← hv] at HL HW
 have hc0 := (IsA.cells ha).1
 have HK0 := Lib.hid (Kp.refl nob w)
 have HDN := Lib.hid (fun w' (k : Kp nob w w') => down_any D g N S W cW w' (hd.keep0 k))
 clear hd ha hp ht hn hr hc hcm hX hv hL hmx
 by_cases h0 : n = 0
 · have HX : Hid (whyNot D A s = 1) := Lib.hid (by rw [HW.out, if_pos (.inl h0)])
   clear HW
   subst h0
   go_enter Tryz.func93, Tryz.ntmps93
   go_wp2
   go_ret
   exact ⟨by rw [HX.out]; rfl, HK0.out⟩
 have h0b : ((n : Int) == 0) = false := by simp; omega
 have h0c : ¬ (n = 0) := h0
 by_cases hv : v = n
 · have HX : Hid (whyNot D A s = if D.off then 8 else if 256 * L < n then 7 else 0) := Lib.hid (by rw [HW.out, if_neg (by omega)])
   clear HW
   subst hv
   cases ho : D.off with
   | true =>
     rw [ho] at HX HDN
     go_enter Tryz.func93, Tryz.ntmps93
     go_wp2_with fail
     refine HL.out.mono ?_
     rintro e w1 ⟨rfl, k1⟩
     have c1 : w1.cell? ⟨a, 0, none⟩ = some (.pointer (some ⟨g, 0, none⟩)) := (IsA.cells (areaP.keep HA.out k1 (fun e => e))).1
     have HDN1 := Lib.hid (HDN.out w1 k1)
     have HK1 := Lib.hid k1
     clear k1
     go_wp2_with fail
     refine HDN1.out.mono ?_
     rintro e w2 ⟨rfl, rfl⟩
     go_wp2
     go_ret
     exact ⟨by rw [HX.out]; rfl, HK1.out⟩
   | false =>
     rw [ho] at HX HDN
     by_cases hf : 256 * L < v
     · have HX2 : Hid (whyNot D A s = 7) := Lib.hid (by rw [HX.out, if_neg (by decide), if_pos hf])
       have hfd : decide (256 * L < v) = true := decide_eq_true hf
       clear HX
       go_enter Tryz.func93, Tryz.ntmps93
       go_wp2_with fail
       refine HL.out.mono ?_
       rintro e w1 ⟨rfl, k1⟩
       have c1 : w1.cell? ⟨a, 0, none⟩ = some (.pointer (some ⟨g, 0, none⟩)) := (IsA.cells (areaP.keep HA.out k1 (fun e => e))).1
       have HDN1 := Lib.hid (HDN.out w1 k1)
       have HLF1 := Lib.hid (HLF.out w1 k1)
       have HK1 := Lib.hid k1
       clear k1
       go_wp2_with fail
       refine HDN1.out.mono ?_
       rintro e w2 ⟨rfl, rfl⟩
       go_wp2_with fail
       refine HLF1.out.mono ?_
       rintro e w2 ⟨rfl, k2⟩
       go_wp2
       go_ret
       exact ⟨by rw [HX2.out]; rfl, HK1.out.trans k2 (fun _ e => e.elim)⟩
     · have HX2 : Hid (whyNot D A s = 0) := Lib.hid (by rw [HX.out, if_neg (by decide), if_neg hf])
       have hfd : decide (256 * L < v) = false := decide_eq_false hf
       clear HX
       go_enter Tryz.func93, Tryz.ntmps93
       go_wp2_with fail
       refine HL.out.mono ?_
       rintro e w1 ⟨rfl, k1⟩
       have c1 : w1.cell? ⟨a, 0, none⟩ = some (.pointer (some ⟨g, 0, none⟩)) := (IsA.cells (areaP.keep HA.out k1 (fun e => e))).1
       have HDN1 := Lib.hid (HDN.out w1 k1)
       have HLF1 := Lib.hid (HLF.out w1 k1)
       have HK1 := Lib.hid k1
       clear k1
       go_wp2_with fail
       refine HDN1.out.mono ?_
       rintro e w2 ⟨rfl, rfl⟩
       go_wp2_with fail
       refine HLF1.out.mono ?_
       rintro e w2 ⟨rfl, k2⟩
       go_wp2
       go_ret
       exact ⟨by rw [HX2.out]; rfl, HK1.out.trans k2 (fun _ e => e.elim)⟩
 · have HX : Hid (whyNot D A s = 1) := Lib.hid (by rw [HW.out, if_pos (.inr hv)])
   clear HW
   have hvb : ((v : Int) != (n : Int)) = true := by simp; omega
   go_enter Tryz.func93, Tryz.ntmps93
   go_wp2_with fail
   refine HL.out.mono ?_
   rintro e w1 ⟨rfl, k1⟩
   go_wp2
   go_ret
   exact ⟨by rw [HX.out]; rfl, k1⟩
attribute [local go_sem] Oper.semAt_some
def secAt (D : Dk) (p i : Nat) : List UInt8 := D.now.getD (p + i) []
def elB (p i k : Nat) : Array Value := #[.int .i64 ((p + i : Nat) : Int), .slice (some ⟨k, 0, none⟩) 256 256]
def VB (D : Dk) (p M : Nat) (i k : Nat) (W : World) : Prop := i < M ∧ Blk W k 90 (bvs (secAt D p i))
theorem VB.put (D : Dk) (p M : Nat) (i k : Nat) (W : World) (l : Nat) (o o' : Obj) (h : W.heap[l]? = some o) (hc : o.isCells = false) (v : VB D p M i k W) : VB D p M i k (W.putObj l o') := by
 refine ⟨v.1, ?_⟩
 have hb : W.heap[k]? = _ := v.2
 refine (World.putObj_heap_other (k := k) (r := l) (fun e => ?_)).trans hb
 subst e
 rw [h] at hb; cases hb; cases hc
theorem behind_any (a : Nat) (w : World) :
    Calls Tryz.prog 85 #[.pointer (some ⟨a, 0, none⟩)] w fun e w' => e = .returned (.func (.func 99) #[] #[.pointer (some ⟨w.heap.size, 0, none⟩)]) ∧ w' = w.alloc (.cells #[.pointer (some ⟨a, 0, none⟩)] 102) := by
 go_enter Tryz.func85, Tryz.ntmps85
 go_wp2
 go_ret
 exact ⟨rfl, rfl⟩
theorem behind_iter (m Bx a g N S : Nat) (W0 : Option Addr) (cW : Nat) (D : Dk) (A : Ar) (M : Nat) (F : Nat → Prop) (hM : M = min 64 (A.top - A.pos)) (ho : D.off = false) (hp : A.pos ≤ A.top) (ht : A.top ≤ D.now.length) (hFx : ¬ F Bx) (hFa : ¬ F a) (hFd : ∀ j, dF g N S W0 j → ¬ F j)
    (w : World) (cBx : w.cell? ⟨Bx, 0, none⟩ = some (.pointer (some ⟨a, 0, none⟩))) (lx : Bx < w.heap.size) (hA : IsA w a g A) (hD : Cd w g N S W0 cW D) :
    Iter m Tryz.prog 99 #[.pointer (some ⟨Bx, 0, none⟩)] (elB A.pos) (VB D A.pos M) (Kp F) M w := by
 intro l J Jx W hW hJ hX hY h0
 have hBx : W.cell? ⟨Bx, 0, none⟩ = some (.pointer (some ⟨a, 0, none⟩)) := (hW.cell (p := ⟨Bx, 0, none⟩) lx (fun e => e)).trans cBx
 have hsx : Bx < W.heap.size := Nat.lt_of_lt_of_le lx hW.size
 have hA1 : IsA W a g A := areaP.keep hA hW (fun e => e)
 have hD1 : Cd W g N S W0 cW D := hD.keep0 hW
 clear cBx lx hW hA hD w
 show CallsIn Fence.wide m Tryz.prog 99 #[.func (.yield l) #[] #[], .pointer (some ⟨Bx, 0, none⟩)] W _
 have hmx := hD1.max
 have hok := hD1.ok.now
 obtain ⟨P, hP⟩ : ∃ P, P = A.pos := ⟨_, rfl⟩
 obtain ⟨T, hT⟩ : ∃ T, T = A.top := ⟨_, rfl⟩
 rw [← hP] at hp hM hY
 rw [← hT] at hp ht hM
 obtain ⟨c0, c1, c2⟩ := hA1.cells
 rw [← hP] at c1
 have HK := Lib.hid (And.intro hBx (And.intro hsx (And.intro hA1 hD1)))
 have HF := Lib.hid (And.intro hFx (And.intro hFa hFd))
 have HB := Lib.hid (And.intro hp (And.intro ht (And.intro hmx hM)))
 have e1 : IntKind.i64.wrap ((P : Int) + 64) = ((P + 64 : Nat) : Int) := by rw [IntWalk.i64_in _ (by omega)]; omega
 have hmin : (if (T : Int) < ((P + 64 : Nat) : Int) then (T : Int) else ((P + 64 : Nat) : Int)) = ((P + M : Nat) : Int) := by split <;> omega
 have HT := Lib.hid hT
 have HP := Lib.hid hP
 clear hA1 hD1 hFx hFa hFd hmx hsx c0 c2 hT hp ht hM hP
 refine callsIn_of_wp Tryz.func99 rfl trivial ?_ rfl
 simp only [Tryz.ntmps99, List.size_toArray, List.length_cons, List.length_nil, Nat.reduceAdd, Nat.reduceSub, Array.replicate_succ, Array.replicate_zero, List.push_toArray, List.append_toArray, List.nil_append, List.cons_append]
 gi_wp2
 gi_loopw [4] (fun i wr => ∃ k : Nat, k ≤ M ∧ i = .int .i64 ((P + k : Nat) : Int) ∧ J k wr ∧ Kp F W wr)
  (fun i _ => P + M - (intOf i).toNat)
 case atStart => exact ⟨0, Nat.zero_le _, by simp, h0, Kp.refl _ _⟩
 case round =>
  obtain ⟨k, hk, rfl, hJs, hnx⟩ := hrel
  have hcx : wr.cell? ⟨Bx, 0, none⟩ = some (.pointer (some ⟨a, 0, none⟩)) := (hnx.cell (p := ⟨Bx, 0, none⟩) HK.out.2.1 HF.out.1).trans HK.out.1
  have hAr : IsA wr a g A := areaP.keep HK.out.2.2.1 hnx HF.out.2.1
  have hDr : Cd wr g N S W0 cW D := HK.out.2.2.2.keep hnx HF.out.2.2
  obtain ⟨d0, d1, d2⟩ := hAr.cells
  rw [← HT.out] at d2
  have HDr := Lib.hid hDr
  have HJs := Lib.hid hJs
  have Hnx := Lib.hid hnx
  clear hAr hDr d1 hJs hnx
  by_cases hlt : k < M
  · have hps : P + k < D.now.length := by have := HB.out; omega
    have hsec : D.now[P + k]? = some (secAt D P k) := by unfold secAt; rw [List.getD_eq_getElem?_getD, List.getElem?_eq_getElem hps]; rfl
    have hrd := read_yes D (P + k) (secAt D P k) g N S W0 cW wr HDr.out ho hsec
    rw [Int.natCast_add] at hrd
    have HRD := Lib.hid hrd
    have hle2 : (T : Int) ≤ (P : Int) + 64 ∧ (P : Int) + (k : Int) < (T : Int) ∨ (P : Int) + 64 < (T : Int) ∧ k < 64 := by have := HB.out; omega
    have HLT := Lib.hid hlt
    have HPB := Lib.hid (show P + M ≤ 4200 by have := HB.out; omega)
    clear hsec hps hrd hlt
    rcases hle2 with ⟨h, h2⟩ | ⟨h, h2⟩
    all_goals
     gi_wp2_with fail
     refine ⟨trivial, (fun h => by cases h), ?_⟩
     refine (callsIn_wide.2 HRD.out).mono ?_
     rintro e w1 ⟨kb, rfl, hb1, k1, hnew⟩
     have HJ1 := Lib.hid (hJ _ _ _ HJs.out k1)
     have HB1 := Lib.hid hb1
     have HK1 := Lib.hid ((Hnx.out.trans k1 (fun _ e => e.elim) : Kp F W w1))
     clear hb1 k1 hnew
     obtain ⟨fn, tmps, assign, body, hy, hR⟩ := hY k kb w1 HJ1.out ⟨HLT.out, HB1.out⟩
     rw [show elB P k kb = #[.int .i64 ((P : Int) + (k : Int)), .slice (some ⟨kb, 0, none⟩) 256 256] by unfold elB; rw [Int.natCast_add]] at hy
     gi_wp2
     refine ⟨(fun h => by cases h), hR.mono ?_⟩
     rintro r W3 (⟨rfl, hJ3, hk3⟩ | ⟨rfl, hJx3⟩)
     · have HK3 := Lib.hid (HK1.out.trans hk3 (fun _ e => .inl e))
       have HJ3 := Lib.hid hJ3
       clear hJ3 hk3
       have e4 : IntKind.i64.wrap ((P : Int) + (k : Int) + 1) = (P : Int) + (k : Int) + 1 := by rw [IntWalk.i64_in _ (by have := HPB.out; have := HLT.out; omega)]
       gi_wp2
       go_roundw
       case rel => exact ⟨k + 1, by have := HLT.out; omega, by go_num, HJ3.out, HK3.out⟩
       case measure => simp [intOf]; have := HLT.out; omega
     · gi_wp2
       refine bodyPost_ret (results_none rfl _ _ _) rfl ?_
       exact ⟨⟨_, rfl⟩, .inr hJx3⟩
  · obtain rfl : M = k := by omega
    have hle2 : (T : Int) ≤ (P : Int) + 64 ∧ (T : Int) ≤ (P : Int) + (M : Int) ∨ (P : Int) + 64 < (T : Int) ∧ 64 ≤ M := by have := HB.out; omega
    clear hlt
    rcases hle2 with ⟨h, h2⟩ | ⟨h, h2⟩
    all_goals
     gi_wp2
     go_end0
     exact ⟨⟨_, rfl⟩, .inl HJs.out⟩
end Disk
end Go.Proofs.YtigdlnfgdjfdoaaGreat
