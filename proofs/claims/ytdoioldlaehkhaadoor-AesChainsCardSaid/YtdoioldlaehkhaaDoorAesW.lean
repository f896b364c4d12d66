/- Contracts of the document's own AES: all words of a key. -/
import Derived.Test.YtdoioldlaehkhaaDoorAesR
import Derived.Test.YtdoioldlaehkhaaDoorBlkD
namespace Go.Proofs.YtdoioldlaehkhaaDoor.Aes
open Go Go.RowKit Kit
open Field (cb cb_inj fBox fTimes)

/-- Four bytes by their places. -/
def t4 (f : Nat → UInt8) : List UInt8 := [f 0, f 1, f 2, f 3]
theorem t4_length (f : Nat → UInt8) : (t4 f).length = 4 := rfl
theorem t4_ext {f g : Nat → UInt8} (h : ∀ i, i < 4 → f i = g i) : t4 f = t4 g := by
  rw [t4, t4, h 0 (by omega), h 1 (by omega), h 2 (by omega), h 3 (by omega)]
theorem t4_get (f : Nat → UInt8) (k : Nat) (h : k < 4) : (bvs (t4 f))[k]? = some (.int .u8 (cb (f k))) := by
  have : k = 0 ∨ k = 1 ∨ k = 2 ∨ k = 3 := by omega
  rcases this with rfl | rfl | rfl | rfl <;> rfl
theorem t4_set (f : Nat → UInt8) (k : Nat) (x : UInt8) (h : k < 4) : (t4 f).set k x = t4 fun i => if i = k then x else f i := by
  have : k = 0 ∨ k = 1 ∨ k = 2 ∨ k = 3 := by omega
  rcases this with rfl | rfl | rfl | rfl <;> simp [t4]
/-- The first k of four are made. -/
def p4 (f g : Nat → UInt8) (k : Nat) : List UInt8 := t4 fun i => if i < k then f i else g i
theorem p4_length (f g : Nat → UInt8) (k : Nat) : (p4 f g k).length = 4 := rfl
theorem p4_zero (f g : Nat → UInt8) : p4 f g 0 = t4 g := t4_ext fun i _ => if_neg (by omega)
theorem p4_all (f g : Nat → UInt8) : p4 f g 4 = t4 f := t4_ext fun i h => if_pos h
theorem p4_get (f g : Nat → UInt8) (k : Nat) (h : k < 4) : (bvs (p4 f g k))[k]? = some (.int .u8 (cb (g k))) := by rw [p4, t4_get _ _ h, if_neg (Nat.lt_irrefl k)]
theorem p4_set (f g : Nat → UInt8) (k : Nat) (h : k < 4) : (p4 f g k).set k (f k) = p4 f g (k + 1) := by
  rw [p4, t4_set _ _ _ h, p4]
  refine t4_ext fun i _ => ?_
  by_cases hi : i = k
  · subst hi; rw [if_pos rfl, if_pos (Nat.lt_succ_self _)]
  · rw [if_neg hi]
    by_cases h2 : i < k
    · rw [if_pos h2, if_pos (by omega)]
    · rw [if_neg h2, if_neg (by omega)]
attribute [irreducible] p4
theorem next_t4 (key : List UInt8) (n : Nat) (W : List UInt8) (i : Nat) : next key n W i = t4 (nextB key n W i) := rfl
theorem w4_info : (Tryd.prog.info? 52).map (fun i => (i.zero, i.size, i.bytes)) = some (some (.agg #[.int .u8 0, .int .u8 0, .int .u8 0, .int .u8 0]), 4, 4) := by kernel_rfl
theorem w4s_under : Tryd.prog.underlying 33 = some (.slice 52) := by kernel_rfl

/-- What stands in a round: the words ahead, the one that is made. -/
structure Ws (w : World) (key : List UInt8) (n i : Nat) (X : Option Addr) (cX g : Nat) (L : List UInt8) (w2 : World) : Prop where
  o : OwnK 4 52 w2 X i cX (bvs (words key n i))
  b : Blk w2 g 52 (bvs L)
  kp : Kp nob w w2
  far : ∀ k, ab X = some k → k < g
  lt : w.heap.size ≤ g
theorem Ws.drew {w w2 : World} {key : List UInt8} {n i : Nat} {X : Option Addr} {cX g : Nat} {L : List UInt8} (h : Ws w key n i X cX g L w2) : Ws w key n i X cX g L w2.drew :=
  have k := (Kp.refl nob w2).drew
  ⟨h.o.keep k (fun _ _ e => e), h.b.keep k (fun e => e), h.kp.drew, h.far, h.lt⟩
theorem Ws.set {w w2 : World} {key : List UInt8} {n i : Nat} {X : Option Addr} {cX g : Nat} {L : List UInt8} (h : Ws w key n i X cX g L w2) (k : Nat) (u : UInt8) : Ws w key n i X cX g (L.set k u) (w2.setCell ⟨g, k, none⟩ (.int .u8 (cb u))) :=
  ⟨h.o.keep (F := fun k => k = g) ((Kp.refl (fun k => k = g) w2).setCell (.inl rfl) _) (fun k e e' => by have := h.far k e; omega),
   by have := h.b.set_ k (.int .u8 (cb u)); rwa [bvs_setb] at this, h.kp.setCell (.inr h.lt) _, h.far, h.lt⟩
theorem Ws.keep {w w2 w3 : World} {key : List UInt8} {n i : Nat} {X : Option Addr} {cX g : Nat} {L : List UInt8} {F : Nat → Prop} (h : Ws w key n i X cX g L w2) (k : Kp F w2 w3) (hF : ∀ j, F j → g < j) : Ws w key n i X cX g L w3 :=
  ⟨h.o.keep k (fun j e e' => by have := h.far j e; have := hF j e'; omega), h.b.keep k (fun e => by have := hF _ e; omega), h.kp.since k (fun j e => by have := hF j e; have := h.lt; omega), h.far, h.lt⟩
/-- One word more. -/
theorem words_more {w w2 w5 : World} {key : List UInt8} {n i : Nat} {X X2 : Option Addr} {cX cX2 g : Nat} {L : List UInt8} {a : Obj} (h : Ws w key n i X cX g L w2) (hs : words key n (i + 1) = words key n i ++ L)
    (ho : OwnK 4 52 w5 X2 (i + 1) cX2 (bvs (words key n i) ++ bvs L)) (hg : (w2.alloc a).grownBy w5 (ab X)) (hab : ab X2 = ab X ∨ ab X2 = some (w2.alloc a).heap.size) (gX : ∀ k, ab X = some k → w.heap.size ≤ k) :
    OwnK 4 52 w5 X2 (i + 1) cX2 (bvs (words key n (i + 1))) ∧ (∀ k, ab X2 = some k → w.heap.size ≤ k) ∧ Kp nob w w5 := by
  refine ⟨by rw [hs, bvs_append]; exact ho, fun k e => ?_, ?_⟩
  · rcases hab with h1 | h1 <;> rw [h1] at e
    · exact gX k e
    · cases e; have := h.kp.size; simp; omega
  · exact h.kp.since (((Kp.refl (rowF X) w2).alloc a).grown hg (fun k e => .inl e)) (fun k e => gX k e)
/-- Four bytes of a row. -/
theorem row_four {w : World} {A : Option Addr} {W : List UInt8} (h : Row w A (bvs W)) (j : Nat) (hj : 4 * j + 4 ≤ W.length) : ∃ B o, A = some ⟨B, o, none⟩ ∧ w.rangeAt B (o + j * 4) (bvs (t4 fun k => gb W (4 * j + k))) := by
  obtain ⟨B, o, hA, hc⟩ := row_byte h (i := 0) (by omega)
  refine ⟨B, o, hA, fun k v hv => ?_⟩
  have hk : k < 4 := (List.getElem?_eq_some_iff.1 hv).1
  rw [t4_get _ _ hk] at hv
  rw [show o + j * 4 + k = o + (4 * j + k) by omega, hc _ (by omega), ← hv]
/-- .. and the one that it is made of. -/
structure Wt (w : World) (key : List UInt8) (n i : Nat) (X : Option Addr) (cX g : Nat) (L : List UInt8) (g2 : Nat) (M : List UInt8) (w2 : World) : Prop where
  s : Ws w key n i X cX g L w2
  t : Blk w2 g2 52 (bvs M)
theorem Wt.drew {w w2 : World} {key : List UInt8} {n i : Nat} {X : Option Addr} {cX g g2 : Nat} {L M : List UInt8} (h : Wt w key n i X cX g L g2 M w2) : Wt w key n i X cX g L g2 M w2.drew :=
  ⟨h.s.drew, h.t.keep (Kp.refl nob w2).drew (fun e => e)⟩
theorem Wt.sets {w w2 : World} {key : List UInt8} {n i : Nat} {X : Option Addr} {cX g g2 : Nat} {L M : List UInt8} (h : Wt w key n i X cX g L g2 M w2) (hg : g < g2) (k : Nat) (u : UInt8) : Wt w key n i X cX g (L.set k u) g2 M (w2.setCell ⟨g, k, none⟩ (.int .u8 (cb u))) :=
  ⟨h.s.set k u, h.t.far (by simp; omega) _⟩
theorem Wt.sett {w w2 : World} {key : List UInt8} {n i : Nat} {X : Option Addr} {cX g g2 : Nat} {L M : List UInt8} (h : Wt w key n i X cX g L g2 M w2) (hg : g < g2) (k : Nat) (u : UInt8) : Wt w key n i X cX g L g2 (M.set k u) (w2.setCell ⟨g2, k, none⟩ (.int .u8 (cb u))) :=
  ⟨h.s.keep (F := fun k => k = g2) ((Kp.refl (fun k => k = g2) w2).setCell (.inl rfl) _) (fun j e => by omega), by have := h.t.set_ k (.int .u8 (cb u)); rwa [bvs_setb] at this⟩
theorem four_ways (n i : Nat) : i % n = 0 ∨ (i % n ≠ 0 ∧ n = 8 ∧ i % 8 = 4) ∨ (i % n ≠ 0 ∧ n ≠ 8) ∨ (i % n ≠ 0 ∧ n = 8 ∧ i % 8 ≠ 4) := by
  by_cases h1 : i % n = 0
  · exact .inl h1
  · by_cases h2 : n = 8
    · by_cases h3 : i % 8 = 4
      · exact .inr (.inl ⟨h1, h2, h3⟩)
      · exact .inr (.inr (.inr ⟨h1, h2, h3⟩))
    · exact .inr (.inr (.inl ⟨h1, h2⟩))
theorem turned_a (n i : Nat) (P : Nat → UInt8) (h : i % n = 0) : t4 (turned n i P) = (t4 fun k => Field.box (P ((k + 1) % 4))).set 0 (Field.box (P 1) ^^^ rc (i / n - 1)) := by
  rw [t4_set _ _ _ (by omega)]
  refine t4_ext fun k hk => ?_
  rw [turned, if_pos h]
  by_cases h0 : k = 0
  · subst h0; rw [if_pos rfl, if_pos rfl]
  · rw [if_neg h0, if_neg h0, UInt8.xor_zero]
theorem turned_b (n i : Nat) (P : Nat → UInt8) (h : i % n ≠ 0) (h2 : n = 8 ∧ i % 8 = 4) : t4 (turned n i P) = t4 fun k => Field.box (P k) :=
  t4_ext fun k _ => by rw [turned, if_neg h, if_pos h2]
theorem turned_c (n i : Nat) (P : Nat → UInt8) (h : i % n ≠ 0) (h2 : ¬ (n = 8 ∧ i % 8 = 4)) : t4 (turned n i P) = [P 0, P 1, P 2, P 3] :=
  t4_ext (g := P) fun k _ => by rw [turned, if_neg h, if_neg h2]
theorem zero4 : bvs (t4 fun _ => 0) = [.int .u8 0, .int .u8 0, .int .u8 0, .int .u8 0] := rfl

set_option maxHeartbeats 1000000 in
set_option maxRecDepth 100000 in
theorem fWords (key : List UInt8) (n : Nat) (A : Option Addr) (cA : Nat) (w : World) (hk : key.length = 4 * n) (hr : Row w A (bvs key)) (hc : 4 * n ≤ cA) (hn : 1 ≤ n) (hn8 : n ≤ 8) :
    Calls Tryd.prog 13 #[.slice A (4 * n) cA] w fun e w' => (∃ X cX, e = .returned (.slice X (4 * (n + 7)) cX) ∧ Row w' X (bvs (allW key)) ∧ 4 * (n + 7) ≤ cX ∧ ∀ k, ab X = some k → w.heap.size ≤ k) ∧ Kp nob w w' := by
  have HK := Lib.hid hk; clear hk
  have HR := Lib.hid hr; clear hr
  go_enter Tryd.func13, Tryd.ntmps13
  go_wp2
  go_loopw [3, 5] (fun vo vi wr => ∃ (i : Nat) (X : Option Addr) (cX : Nat), i ≤ 4 * (n + 7) ∧ vo = .slice X i cX ∧ vi = .int .i64 i ∧ OwnK 4 52 wr X i cX (bvs (words key n i)) ∧ (∀ k, ab X = some k → w.heap.size ≤ k) ∧ Kp nob w wr)
    (fun _ vi _ => 4 * (n + 7) - (intOf vi).toNat)
  case atStart => exact ⟨0, none, 0, by omega, rfl, rfl, by rw [words_zero]; exact OwnK.nil _ _ _, fun k e => (by cases e), Kp.refl _ _⟩
  case round =>
    obtain ⟨i, X, cX, hi, rfl, rfl, hO, gX, hkp⟩ := hrel
    have HO := Lib.hid hO; clear hO
    by_cases hlt : i < 4 * (n + 7)
    · obtain ⟨g1, hg1⟩ : ∃ g, g = wr.heap.size := ⟨_, rfl⟩
      obtain ⟨T, hT⟩ : ∃ T, T = words key n i := ⟨_, rfl⟩
      obtain ⟨f, hf⟩ : ∃ f, f = nextB key n T i := ⟨_, rfl⟩
      have hw0 : Ws w key n i X cX g1 (p4 f (fun _ => 0) 0) (wr.alloc (.cells (bvs (t4 fun _ => 0)).toArray 52)) := by
        rw [p4_zero]
        exact ⟨HO.out.alloc _, Blk.new' hg1 rfl, hkp.alloc _, fun k e => by rw [hg1]; exact HO.out.lt k e, by rw [hg1]; exact hkp.size⟩
      have HSU := Lib.hid (show words key n (i + 1) = words key n i ++ t4 f by rw [words_succ, next_t4, hf, hT])
      have HW0 := Lib.hid hw0
      have HF := Lib.hid hf; have HT := Lib.hid hT
      obtain ⟨i0, hi0, hz0, hz1, hz2⟩ := info_parts w4_info
      have HI0 := Lib.hid hi0; have HZ0 := Lib.hid hz0; have HZ1 := Lib.hid hz1; have HZ2 := Lib.hid hz2
      clear hw0 hf hT hi0 hz0 hz1 hz2 HO
      by_cases hin : i < n
      · go_wp2
        rw [← hg1]
        clear hg1
        go_loopw [26] (fun vk w3 => ∃ k : Nat, k ≤ 4 ∧ vk = .int .i64 k ∧ Ws w key n i X cX g1 (p4 f (fun _ => 0) k) w3)
          (fun vk _ => 4 - (intOf vk).toNat)
        case atStart => exact ⟨0, by omega, rfl, HW0.out⟩
        case round =>
          obtain ⟨k, hk4, rfl, hw⟩ := hrel
          have HW := Lib.hid hw; clear hw HW0
          by_cases hlk : k < 4
          · have hq0 : 0 < key.length := by rw [HK.out]; omega
            have hrow := HR.out.keep0 HW.out.kp
            obtain ⟨B, o, hA, hcell⟩ := row_byte hrow hq0
            have hc2 := hcell (4 * i + k) (by rw [HK.out]; omega)
            have hx := HW.out.b.cell k
            rw [p4_get _ _ _ hlk] at hx
            have hfr := HW.out.b.frozen k
            have HFK := Lib.hid (show gb key (4 * i + k) = f k by rw [HF.out, nextB, if_pos hin])
            rw [HFK.out] at hc2
            clear hcell hrow
            subst hA
            go_wp2
            go_roundw
            case rel =>
              refine ⟨k + 1, by omega, by go_num, ?_⟩
              have := HW.out.set k (f k)
              rw [p4_set _ _ _ hlk] at this
              exact this
            case measure => simp [intOf]; omega
          · have HE := Lib.hid (show Ws w key n i X cX g1 (t4 f) wr by have := HW.out; rwa [show k = 4 by omega, p4_all] at this)
            clear HW
            go_wp2_with (first
              | (refine wpList_load_blk rfl 52 (.tmp 6) rfl g1 _ [.int .u8 (cb (f 0)), .int .u8 (cb (f 1)), .int .u8 (cb (f 2)), .int .u8 (cb (f 3))] HE.out.b rfl _ arr4 rfl (by kernel_rfl) ?_)
              | (at_builtin
                 refine wpList_appK _ rfl (.tmp 39) (.tmp 41) 33 rfl 4 (by decide) 52 i0 _ 4 w4s_under HI0.out HZ0.out HZ1.out HZ2.out rfl X i cX (bvs (words key n i)) rfl (HE.out.o.alloc _) ⟨wr.heap.size, 0, none⟩ 1 1 (bvs (t4 f)) rfl rfl (row_new wr (bvs (t4 f)) _) (bvs_one _) (by omega) (by omega) ?_
                 intro X2 cX2 w5 hown5 hg5 hab5))
            have HN := Lib.hid (words_more HE.out HSU.out hown5 hg5 hab5 gX)
            clear hown5 hg5 hab5
            go_wp2
            exact ⟨⟨i + 1, X2, cX2, by omega, rfl, by go_num, HN.out.1, HN.out.2.1, HN.out.2.2⟩, by simp [intOf]; omega⟩
      · have hil : (words key n i).length = 4 * i := words_length _ _ _
        obtain ⟨b, o, hX, hrg⟩ := row_four HW0.out.o.row (i - 1) (by rw [hil]; omega)
        obtain ⟨P, hP⟩ : ∃ P : Nat → UInt8, P = fun k => gb (words key n i) (4 * (i - 1) + k) := ⟨_, rfl⟩
        rw [← hP] at hrg
        have c0 : (wr.alloc (.cells #[.int .u8 0, .int .u8 0, .int .u8 0, .int .u8 0] 52)).cell? ⟨b, o + (i - 1) * 4, none⟩ = some (.int .u8 (cb (P 0))) := hrg 0 _ rfl
        have c1 : (wr.alloc (.cells #[.int .u8 0, .int .u8 0, .int .u8 0, .int .u8 0] 52)).cell? ⟨b, o + (i - 1) * 4 + 1, none⟩ = some (.int .u8 (cb (P 1))) := hrg 1 _ rfl
        have c2 : (wr.alloc (.cells #[.int .u8 0, .int .u8 0, .int .u8 0, .int .u8 0] 52)).cell? ⟨b, o + (i - 1) * 4 + 2, none⟩ = some (.int .u8 (cb (P 2))) := hrg 2 _ rfl
        have c3 : (wr.alloc (.cells #[.int .u8 0, .int .u8 0, .int .u8 0, .int .u8 0] 52)).cell? ⟨b, o + (i - 1) * 4 + 3, none⟩ = some (.int .u8 (cb (P 3))) := hrg 3 _ rfl
        have hw1 : ∀ (a0 a1 a2 a3 : UInt8), Wt w key n i X cX g1 (p4 f (fun _ => 0) 0) (g1 + 1) [a0, a1, a2, a3] ((wr.alloc (.cells #[.int .u8 0, .int .u8 0, .int .u8 0, .int .u8 0] 52)).alloc (.cells #[.int .u8 (cb a0), .int .u8 (cb a1), .int .u8 (cb a2), .int .u8 (cb a3)] 52)) :=
          fun a0 a1 a2 a3 => ⟨HW0.out.keep ((Kp.refl nob _).alloc _) (fun _ e => e.elim), Blk.new' (by rw [hg1]; simp) rfl⟩
        have HW1 := Lib.hid hw1
        have HP := Lib.hid hP
        clear hil hrg hP hw1
        have hn0 : ¬ (n : Int) = 0 := by omega
        obtain ⟨d, hd⟩ : ∃ d, d = i - n := ⟨_, rfl⟩
        have e2 : (i : Int) - (n : Int) = (d : Int) := by omega
        have hdl : d < i := by omega
        have HD := Lib.hid hd; clear hd
        rcases four_ways n i with hm | ⟨hm, h8, h4⟩ | ⟨hm, h8⟩ | ⟨hm, h8, h4⟩
        case' inl =>
          have d1 : ((i : Int) % (n : Int) == 0) = true := by rw [beq_iff_eq]; omega
          have HTU := Lib.hid (turned_a n i P hm)
          obtain ⟨q, hq⟩ : ∃ q, q = i / n := ⟨_, rfl⟩
          have e1 : (i : Int) / (n : Int) = (q : Int) := by rw [hq]; rfl
          have hq1 : 1 ≤ q := by rw [hq]; exact (Nat.one_le_div_iff (by omega)).2 (by omega)
          have hq2 : q ≤ 1000 := by rw [hq]; exact Nat.le_trans (Nat.div_le_self _ _) (by omega)
          rw [← hq] at HTU
          clear hq hm
          have HB0 := Lib.hid (show Wt w key n i X cX g1 (p4 f (fun _ => 0) 0) (g1 + 1) (p4 (fun k => Field.box (P ((k + 1) % 4))) (fun k => P ((k + 1) % 4)) 0) _ from by rw [p4_zero (fun k => Field.box (P ((k + 1) % 4)))]; exact HW1.out (P 1) (P 2) (P 3) (P 0))
          go_wp2
          rw [← hg1]
          clear hg1
          go_loopw [74] (fun vk w3 => ∃ k : Nat, k ≤ 4 ∧ vk = .int .i64 k ∧ Wt w key n i X cX g1 (p4 f (fun _ => 0) 0) (g1 + 1) (p4 (fun k => Field.box (P ((k + 1) % 4))) (fun k => P ((k + 1) % 4)) k) w3)
            (fun vk _ => 4 - (intOf vk).toNat)
          case' atStart => exact ⟨0, by omega, rfl, HB0.out⟩
          case' round =>
            obtain ⟨k, hk4, rfl, hw⟩ := hrel
            have HB := Lib.hid hw; clear hw HB0
            by_cases hlk : k < 4
            case' pos =>
              have hx := HB.out.t.cell k
              rw [p4_get _ _ _ hlk] at hx
              have hfr := HB.out.t.frozen k
              have HST := Lib.hid (p4_set (fun k => Field.box (P ((k + 1) % 4))) (fun k => P ((k + 1) % 4)) k hlk)
              go_wp2_with fail
              refine (fBox (P ((k + 1) % 4)) _).mono ?_
              rintro e w5 ⟨rfl, rfl⟩
              go_wp2
              go_roundw
              case rel =>
                refine ⟨k + 1, by omega, by go_num, ?_⟩
                have := HB.out.sett (by omega) k (Field.box (P ((k + 1) % 4)))
                rw [HST.out] at this
                exact this
              case measure => simp [intOf]; omega
            case' neg =>
              have HE := Lib.hid (show Wt w key n i X cX g1 (p4 f (fun _ => 0) 0) (g1 + 1) (t4 fun k => Field.box (P ((k + 1) % 4))) wr by have := HB.out; rwa [show k = 4 by omega, p4_all] at this)
              clear HB
              go_wp2
              go_loopw [10, 11] (fun vp vm w3 => ∃ m : Nat, m + 1 ≤ q ∧ vp = .int .u8 (cb (rc m)) ∧ vm = .int .i64 ((m : Int) + 1) ∧ wr = w3)
                (fun _ vm _ => q - (intOf vm).toNat)
              case' atStart => exact ⟨0, by omega, by rw [rc_zero]; rfl, rfl, rfl⟩
              case' round =>
                obtain ⟨m, hmq, rfl, rfl, rfl⟩ := hrel
                by_cases hlm : m + 1 < q
                case' pos =>
                  have HRC := Lib.hid (rc_succ m)
                  go_wp2_with fail
                  refine (fTimes (rc m) 2 _).mono ?_
                  rintro e w5 ⟨rfl, rfl⟩
                  rw [← HRC.out]
                  go_wp2
                  go_roundw
                  case rel => exact ⟨m + 1, by omega, rfl, by go_num, trivial⟩
                  case measure => simp [intOf]; omega
                case' neg =>
                  have hx : wr.cell? ⟨g1 + 1, 0, none⟩ = some (.int .u8 (cb (Field.box (P 1)))) := HE.out.t.cell 0
                  have hfr : wr.frozen? ⟨g1 + 1, 0, none⟩ = false := HE.out.t.frozen 0
                  have HQ := Lib.hid (show (t4 fun k => Field.box (P ((k + 1) % 4))).set 0 (Field.box (P 1) ^^^ rc m) = t4 (turned n i P) by rw [HTU.out, show m = q - 1 by omega])
                  have ht2 := HE.out.sett (by omega) 0 (Field.box (P 1) ^^^ rc m)
                  rw [HQ.out] at ht2
                  have HT2 := Lib.hid ht2
                  clear HE HQ ht2
                  go_wp2
        case' inr.inl =>
          have d1 : ((i : Int) % (n : Int) == 0) = false := by rw [beq_eq_false_iff_ne]; omega
          have d2 : ((n : Int) == 8) = true := by rw [beq_iff_eq]; omega
          have d3 : ((i : Int) % 8 == 4) = true := by rw [beq_iff_eq]; omega
          have d4 : ((i : Int) % 8 == 0) = false := by rw [beq_eq_false_iff_ne]; omega
          have HTU := Lib.hid (turned_b n i P hm ⟨h8, h4⟩)
          have HB0 := Lib.hid (show Wt w key n i X cX g1 (p4 f (fun _ => 0) 0) (g1 + 1) (p4 (fun k => Field.box (P k)) P 0) _ from by rw [p4_zero (fun k => Field.box (P k))]; exact HW1.out (P 0) (P 1) (P 2) (P 3))
          clear hm h8 h4
          go_wp2
          rw [← hg1]
          clear hg1
          go_loopw [74] (fun vk w3 => ∃ k : Nat, k ≤ 4 ∧ vk = .int .i64 k ∧ Wt w key n i X cX g1 (p4 f (fun _ => 0) 0) (g1 + 1) (p4 (fun k => Field.box (P k)) P k) w3)
            (fun vk _ => 4 - (intOf vk).toNat)
          case' atStart => exact ⟨0, by omega, rfl, HB0.out⟩
          case' round =>
            obtain ⟨k, hk4, rfl, hw⟩ := hrel
            have HB := Lib.hid hw; clear hw HB0
            by_cases hlk : k < 4
            case' pos =>
              have hx := HB.out.t.cell k
              rw [p4_get _ _ _ hlk] at hx
              have hfr := HB.out.t.frozen k
              have HST := Lib.hid (p4_set (fun k => Field.box (P k)) P k hlk)
              go_wp2_with fail
              refine (fBox (P k) _).mono ?_
              rintro e w5 ⟨rfl, rfl⟩
              go_wp2
              go_roundw
              case rel =>
                refine ⟨k + 1, by omega, by go_num, ?_⟩
                have := HB.out.sett (by omega) k (Field.box (P k))
                rw [HST.out] at this
                exact this
              case measure => simp [intOf]; omega
            case' neg =>
              have HT2 := Lib.hid (show Wt w key n i X cX g1 (p4 f (fun _ => 0) 0) (g1 + 1) (t4 (turned n i P)) wr by have := HB.out; rwa [show k = 4 by omega, p4_all, ← HTU.out] at this)
              clear HB
              go_wp2
        case' inr.inr.inl =>
          have d1 : ((i : Int) % (n : Int) == 0) = false := by rw [beq_eq_false_iff_ne]; omega
          have d2 : ((n : Int) == 8) = false := by rw [beq_eq_false_iff_ne]; omega
          have HT2 := Lib.hid (show Wt w key n i X cX g1 (p4 f (fun _ => 0) 0) (g1 + 1) (t4 (turned n i P)) _ from by rw [turned_c n i P hm (fun h => h8 h.1)]; exact HW1.out (P 0) (P 1) (P 2) (P 3))
          clear hm h8
          go_wp2
          rw [← hg1]
          clear hg1
        case' inr.inr.inr =>
          have d1 : ((i : Int) % (n : Int) == 0) = false := by rw [beq_eq_false_iff_ne]; omega
          have d2 : ((n : Int) == 8) = true := by rw [beq_iff_eq]; omega
          have d3 : ((i : Int) % 8 == 4) = false := by rw [beq_eq_false_iff_ne]; omega
          have hm8 : i % 8 ≠ 0 := by rw [← h8]; exact hm
          have d4 : ((i : Int) % 8 == 0) = false := by rw [beq_eq_false_iff_ne]; omega
          have HT2 := Lib.hid (show Wt w key n i X cX g1 (p4 f (fun _ => 0) 0) (g1 + 1) (t4 (turned n i P)) _ from by rw [turned_c n i P hm (fun h => h4 h.2)]; exact HW1.out (P 0) (P 1) (P 2) (P 3))
          clear hm h8 h4 hm8
          go_wp2
          rw [← hg1]
          clear hg1
        all_goals
          go_loopw [102] (fun vk w3 => ∃ k : Nat, k ≤ 4 ∧ vk = .int .i64 k ∧ Wt w key n i X cX g1 (p4 f (fun _ => 0) k) (g1 + 1) (t4 (turned n i P)) w3)
            (fun vk _ => 4 - (intOf vk).toNat)
        all_goals first
          | exact ⟨0, by omega, rfl, HT2.out⟩
          | skip
        all_goals
          obtain ⟨k2, hk24, rfl, hw⟩ := hrel
          have HC := Lib.hid hw
          clear hw HT2
          by_cases hlk2 : k2 < 4
          · have hq0 : 0 < (words key n i).length := by rw [words_length]; omega
            obtain ⟨B2, o2, hX2, hcell⟩ := row_byte HC.out.s.o.row hq0
            have hbo : B2 = b ∧ o2 = o := by rw [hX] at hX2; cases hX2; exact ⟨rfl, rfl⟩
            obtain ⟨rfl, rfl⟩ := hbo
            have hcc := hcell (4 * d + k2) (by rw [words_length]; omega)
            rw [show o2 + (4 * d + k2) = o2 + d * 4 + k2 by omega] at hcc
            have hx := HC.out.t.cell k2
            rw [t4_get _ _ hlk2] at hx
            have hy := HC.out.s.b.cell k2
            rw [p4_get _ _ _ hlk2] at hy
            have hfr := HC.out.s.b.frozen k2
            have HFK := Lib.hid (show f k2 = gb (words key n i) (4 * d + k2) ^^^ turned n i P k2 by rw [HF.out, nextB, if_neg hin, HT.out, HD.out, HP.out])
            have HPS := Lib.hid (p4_set f (fun _ => 0) k2 hlk2)
            clear hcell hX2 hq0
            go_wp2
            go_region
            go_wp2
            go_roundw
            case rel =>
              refine ⟨k2 + 1, by omega, by go_num, ?_⟩
              have := HC.out.drew.sets (by omega) k2 (f k2)
              rw [HPS.out, HFK.out] at this
              exact this
            case measure => simp [intOf]; omega
          · have HE := Lib.hid (show Ws w key n i X cX g1 (t4 f) wr by have := HC.out.s; rwa [show k2 = 4 by omega, p4_all] at this)
            clear HC
            go_wp2_with (first
              | (refine wpList_load_blk rfl 52 (.tmp 6) rfl g1 _ [.int .u8 (cb (f 0)), .int .u8 (cb (f 1)), .int .u8 (cb (f 2)), .int .u8 (cb (f 3))] HE.out.b rfl _ arr4 rfl (by kernel_rfl) ?_)
              | (at_builtin
                 refine wpList_appK _ rfl (.tmp 120) (.tmp 122) 33 rfl 4 (by decide) 52 i0 _ 4 w4s_under HI0.out HZ0.out HZ1.out HZ2.out rfl X i cX (bvs (words key n i)) (by rw [hX]; rfl) (HE.out.o.alloc _) ⟨wr.heap.size, 0, none⟩ 1 1 (bvs (t4 f)) rfl rfl (row_new wr (bvs (t4 f)) _) (bvs_one _) (by omega) (by omega) ?_
                 intro X2 cX2 w5 hown5 hg5 hab5))
            have HN := Lib.hid (words_more HE.out HSU.out hown5 hg5 hab5 gX)
            clear hown5 hg5 hab5
            go_wp2
            exact ⟨⟨i + 1, X2, cX2, by omega, rfl, by go_num, HN.out.1, HN.out.2.1, HN.out.2.2⟩, by simp [intOf]; omega⟩
    · have hie : i = 4 * (n + 7) := by omega
      have hfin : Row wr X (bvs (allW key)) := by
        have := HO.out.row
        rwa [hie, show n = key.length / 4 by rw [HK.out]; omega, ← allW_eq] at this
      have hcap := HO.out.cap
      have HFI := Lib.hid hfin; clear hfin HO
      go_wp2
      go_ret
      exact ⟨⟨X, cX, by rw [hie]; rfl, HFI.out, by omega, gX⟩, hkp⟩
end Go.Proofs.YtdoioldlaehkhaaDoor.Aes
