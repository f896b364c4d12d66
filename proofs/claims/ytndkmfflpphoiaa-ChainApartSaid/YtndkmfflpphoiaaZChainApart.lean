/- coffretlaw16.ChainApart. -/
import Derived.Test.YtndkmfflpphoiaaZG16
import Derived.Deep.Cut
import Derived.Deep.DeepCutAuto
import Derived.Deep.CutRange
import Derived.Deep.CutBlock
set_option linter.unusedVariables false
set_option linter.unusedSimpArgs false
namespace Go.Proofs.Ytndkmfflpphoiaa.Disk
open Go Go.RowKit Kit
/-- Two areas. -/
def twoA (a b : Nat) (X Y : Ar) : Nat → Option Ar := fun k => if k = a then some X else if k = b then some Y else none
theorem twoA_a (a b : Nat) (X Y : Ar) : twoA a b X Y a = some X := by unfold twoA; rw [if_pos rfl]
theorem twoA_b (a b : Nat) (X Y : Ar) (h : b ≠ a) : twoA a b X Y b = some Y := by unfold twoA; rw [if_neg h, if_pos rfl]
theorem up_a (a b : Nat) (X Y X2 : Ar) : upA (twoA a b X Y) a X2 = twoA a b X2 Y := by
  funext k; unfold upA twoA; split <;> rfl
theorem up_b (a b : Nat) (X Y Y2 : Ar) (h : b ≠ a) : upA (twoA a b X Y) b Y2 = twoA a b X Y2 := by
  funext k; unfold upA twoA
  by_cases h1 : k = b
  · rw [if_pos h1, if_neg (by omega), if_pos h1]
  · rw [if_neg h1, if_neg h1, if_neg h1]
theorem two_up (a b : Nat) (X Y : Ar) (h : b ≠ a) : upA (upA noA a X) b Y = twoA a b X Y := by
  funext k; unfold upA twoA noA
  by_cases h1 : k = b
  · rw [if_pos h1, if_neg (by omega), if_pos h1]
  · rw [if_neg h1, if_neg h1]
/-- What stands between the two ifs of a round. -/
structure St (w : World) (n g N S a b : Nat) (i : Nat) (vU vV : Value) (wr : World) : Prop where
  ex : ∃ (D : Dk) (W : Option Addr) (cW : Nat) (X Y : Ar) (U : Option Addr) (m c : Nat) (V : Option Addr) (mv cv : Nat) (us vs : List (List UInt8)) (B : Nat → Prop), vU = .slice U m c ∧ vV = .slice V mv cv ∧ Gd w wr g N S W cW D (twoA a b X Y) B ∧ Lst wr U m c us B ∧ Lst wr V mv cv vs B ∧
    (∀ j, ab U = some j → ab V ≠ some j) ∧ Two n 0 (n / 2) D X Y us vs i ∧ m ≤ i ∧ mv ≤ i ∧ X.top = n / 2 ∧ Y.top = 2 * (n / 2)
theorem St.up {w : World} {n g N S a b i : Nat} {vU vV : Value} {wr : World} (h : St w n g N S a b i vU vV wr) : St w n g N S a b (i + 1) vU vV wr := by
  obtain ⟨D, W, cW, X, Y, U, m, c, V, mv, cv, us, vs, B, h1, h2, h3, h4, h5, h6, h7, h8, h9, h10, h11⟩ := h.ex
  exact ⟨⟨D, W, cW, X, Y, U, m, c, V, mv, cv, us, vs, B, h1, h2, h3, h4, h5, h6, h7.up, by omega, by omega, h10, h11⟩⟩
set_option maxHeartbeats 4000000 in
set_option maxRecDepth 100000 in
theorem apart_walk (n : Int) (A0 : Option Addr) (p cp : Nat) (as_ : List (List UInt8)) (B0 : Option Addr) (q cq : Nat) (bs_ : List (List UInt8)) (w : World) (hn : (Lit.int .i64 n).wf = true)
    (hl : as_.length = p) (hn1 : A0 = none → cp = 0) (hr : Row w A0 (as_.map fun s => .string (str s))) (hc : p ≤ cp) (hm : cp ≤ maxLen) (hw : ∀ s ∈ as_, s.length ≤ 140737488355328)
    (hl2 : bs_.length = q) (hn2 : B0 = none → cq = 0) (hr2 : Row w B0 (bs_.map fun s => .string (str s))) (hc2 : q ≤ cq) (hm2 : cq ≤ maxLen) (hw2 : ∀ s ∈ bs_, s.length ≤ 140737488355328) :
    Calls Try.prog 6 #[.int .i64 n, .slice A0 p cp, .slice B0 q cq] w fun e w' => e = .returned (.bool true) ∧ Kp nob w w' := by
  have HAL := Lib.hid (fun w => alive_yes areaP half_c left_c add_c w)
  have HI := Lib.hid (i64_range hn)
  clear hn
  by_cases hbad : n < 0 ∨ 200 < n ∨ 10 < p ∨ 10 < q
  · have hb : (n < 0 ∨ ¬ n < 0 ∧ 200 < n) ∨ (¬ n < 0 ∧ ¬ 200 < n ∧ (10 : Int) < (p : Int)) ∨ (¬ n < 0 ∧ ¬ 200 < n ∧ ¬ (10 : Int) < (p : Int) ∧ (10 : Int) < (q : Int)) := by omega
    clear hbad
    rcases hb with (h | ⟨h, h2⟩) | ⟨h, h2, h3⟩ | ⟨h, h2, h3, h4⟩
    all_goals
      go_enter Try.func6, Try.ntmps6
      go_wp2_with fail
      refine (HAL.out _).mono ?_
      rintro e w1 ⟨rfl, k1⟩
      go_wp2
      go_ret
      exact ⟨rfl, k1⟩
  obtain ⟨N0, rfl⟩ := Int.eq_ofNat_of_zero_le (show 0 ≤ n by omega)
  have hcl : clamp (N0 : Int) = N0 := by unfold clamp; omega
  have hnew := new_any (N0 : Int)
  rw [hcl] at hnew
  have HNW := Lib.hid hnew
  have HP := Lib.hid (And.intro hl (And.intro hr hw))
  have HQ := Lib.hid (And.intro hl2 (And.intro hr2 hw2))
  have hb1 : ¬ (N0 : Int) < 0 := by omega
  have hb2 : ¬ (200 : Int) < (N0 : Int) := by omega
  have hb3 : ¬ (10 : Int) < (p : Int) := by omega
  have hb4 : ¬ (10 : Int) < (q : Int) := by omega
  have HBB : Hid (N0 ≤ 200 ∧ p ≤ 10 ∧ q ≤ 10) := Lib.hid (by omega)
  clear hnew hcl hl hr hc hm hw hn1 hl2 hr2 hc2 hm2 hw2 hn2 hbad
  go_enter Try.func6, Try.ntmps6
  go_wp2_with fail
  refine (HAL.out _).mono ?_
  rintro e w0 ⟨rfl, k0⟩
  have HK0 := Lib.hid k0
  clear k0
  go_wp2_with fail
  refine (HNW.out _).mono ?_
  rintro e w1 ⟨g, N, S, rfl, hd1, k1, hn1⟩
  have hg1 : Gd w w1 g N S none 0 (new N0) noA nob := Gd.first hd1 (HK0.out.trans k1 (fun _ e => e.elim)) (fun j e => Nat.le_trans HK0.out.size (hn1 j e))
  have HG1 := Lib.hid hg1
  clear hd1 k1 hn1 hg1
  go_wp2_with fail
  refine (half_c (new N0) g N S none 0 4 w1 HG1.out.cd (by omega)).mono ?_
  rintro e w2 ⟨a, rfl, ha, k2, hna⟩
  rw [new_len, show aHalf N0 (decide ((4 : Int) % 2 = 1)) = aHalf N0 false from rfl] at ha
  have HG2 := Lib.hid (HG1.out.half k2 ha hna)
  clear ha k2 hna
  go_wp2_with fail
  refine (half_c (new N0) g N S none 0 7 w2 HG2.out.cd (by omega)).mono ?_
  rintro e w3 ⟨b, rfl, hb, k3, hnb⟩
  rw [new_len, show aHalf N0 (decide ((7 : Int) % 2 = 1)) = aHalf N0 true from rfl] at hb
  have hab : b ≠ a := by have := Blk.lt (HG2.out.ar a _ (upA_same _ _ _)).1; omega
  have hg3 := HG2.out.half k3 hb hnb
  rw [two_up _ _ _ _ hab] at hg3
  have HAB := Lib.hid hab
  have HST : Hid (St w N0 g N S a b 0 (.slice none 0 0) (.slice none 0 0) w3) := Lib.hid ⟨⟨new N0, none, 0, _, _, none, 0, 0, none, 0, 0, [], [], nob, rfl, rfl, hg3, Lst.nil _ _, Lst.nil _ _, (fun j e => by cases e), two_new N0, Nat.le_refl _, Nat.le_refl _, rfl, rfl⟩⟩
  clear hb k3 hnb hg3 hab
  go_wp2
  obtain ⟨L, hL⟩ : ∃ L, L = max p q := ⟨_, rfl⟩
  have HL : Hid (p ≤ L ∧ q ≤ L ∧ L ≤ 10 ∧ (p = L ∨ q = L)) := Lib.hid (by have := HBB.out; omega)
  clear hL
  go_loopw [10, 11, 12] (fun v10 v11 iv wr => ∃ i : Nat, iv = .int .i64 i ∧ i ≤ L ∧ St w N0 g N S a b (2 * i) v10 v11 wr)
    (fun _ _ iv _ => L - (intOf iv).toNat)
  case atStart => exact ⟨0, rfl, Nat.zero_le _, HST.out⟩
  case round =>
    obtain ⟨i, rfl, hi, hst⟩ := hrel
    obtain ⟨D, W, cW, X, Y, U, m, c, V, mv, cv, us, vs, B, rfl, rfl, hg, hu, hv, hd, ht, hmi, hmvi, htx, hty⟩ := hst.ex
    have HS := Lib.hid (And.intro hg (And.intro hu (And.intro hv (And.intro hd (And.intro ht (And.intro hmi (And.intro hmvi (And.intro htx hty))))))))
    have HS0 := Lib.hid hst
    clear hg hu hv hd ht hmi hmvi htx hty hst
    by_cases hout : ¬ (i < p) ∧ ¬ (i < q)
    · have ho1 : ¬ ((i : Int) < (p : Int)) := by omega
      have ho2 : ¬ ((i : Int) < (q : Int)) := by omega
      have HIL : Hid (i ≤ L) := Lib.hid hi
      clear hout hi
      obtain ⟨T, hT⟩ : ∃ T, T = N0 / 2 := ⟨_, rfl⟩
      have HT := Lib.hid hT
      clear hT
      go_wp2_with fail
      refine (half_c D g N S W cW 0 wr HS.out.1.cd (by omega)).mono ?_
      rintro e w2 ⟨a2, rfl, ha, k2, hna⟩
      rw [HS.out.2.2.2.2.1.x.size, show aHalf N0 (decide ((0 : Int) % 2 = 1)) = aHalf N0 false from rfl] at ha
      have hg2 := HS.out.1.half k2 ha hna
      have hl2 := HS.out.2.1.keep0 k2
      have hm2 := HS.out.2.2.1.keep0 k2
      have HG2 := Lib.hid (And.intro hg2 (And.intro hl2 hm2))
      clear ha k2 hna hg2 hl2 hm2
      go_wp2_with fail
      refine (half_c D g N S W cW 1 w2 HG2.out.1.cd (by omega)).mono ?_
      rintro e w3 ⟨b2, rfl, hb, k3, hnb⟩
      rw [HS.out.2.2.2.2.1.x.size, show aHalf N0 (decide ((1 : Int) % 2 = 1)) = aHalf N0 true from rfl] at hb
      have hg3 := HG2.out.1.half k3 hb hnb
      have hl3 := HG2.out.2.1.keep0 k3
      have hm3 := HG2.out.2.2.keep0 k3
      have hab2 : b2 ≠ a2 := by have := Blk.lt (HG2.out.1.ar a2 _ (upA_same _ _ _)).1; omega
      have HG3 := Lib.hid (And.intro hg3 (And.intro hl3 (And.intro hm3 hab2)))
      clear hb k3 hnb hg3 hl3 hm3 hab2
      have hmb : m ≤ 100 ∧ mv ≤ 100 := by have := HS.out.2.2.2.2.2; have := HIL.out; have := HL.out; omega
      have hmb1 := hmb.1
      have hmb2 := hmb.2
      clear hmb
      go_wp2
      go_loopw [125] (fun iv wx => ∃ k : Nat, iv = .int .i64 k ∧ k ≤ m ∧ ∃ (P : Nat) (t : Nat → Option Ar), t a2 = some ⟨N0 / 2, P⟩ ∧ t b2 = some (aHalf N0 true) ∧ Gd w wx g N S W cW D t B ∧ Lst wx U m c us B ∧ Lst wx V mv cv vs B ∧ Fr D.now P (us.drop k) X.pos)
        (fun iv _ => m - (intOf iv).toNat)
      case atStart =>
        refine ⟨0, rfl, Nat.zero_le _, 0, _, ?_, upA_same _ _ _, HG3.out.1, HG3.out.2.1, HG3.out.2.2.1, HS.out.2.2.2.2.1.x.fr⟩
        rw [upA_ne _ _ _ _ (fun e => HG3.out.2.2.2 e.symm), upA_same]; rfl
      case round =>
        rename World => wx
        obtain ⟨k, rfl, hk, P, t, hta, htb, hg, hu, hv, hfr⟩ := hrel
        have HR := Lib.hid (And.intro hta (And.intro htb (And.intro hg (And.intro hu (And.intro hv hfr)))))
        clear hta htb hg hu hv hfr
        by_cases hkm : k < m
        · have hkm2 : (k : Int) < (m : Int) := by omega
          obtain ⟨bb, oo, s, rfl, hcell, hdrop⟩ := HR.out.2.2.2.1.at_ hkm
          have hxp : X.pos ≤ N0 / 2 := by have h1 := HS.out.2.2.2.2.1.x.pos; have h2 := HS.out.2.2.2.2.2.2.2.1; omega
          have hfr := HR.out.2.2.2.2.2
          rw [hdrop] at hfr
          obtain ⟨hnx, hfr2⟩ := read_on HS.out.2.2.2.2.1.x.off hfr hxp
          have hnp : (⟨N0 / 2, P⟩ : Ar).pos ≤ (⟨N0 / 2, P⟩ : Ar).top := by have h1 := hfr.le; show P ≤ N0 / 2; omega
          have hcall := next_c D g N S W cW a2 ⟨N0 / 2, P⟩ wx HR.out.2.2.1.cd (HR.out.2.2.1.ar a2 _ HR.out.1).1 (HR.out.2.2.1.ar a2 _ HR.out.1).2.2 hnp (by rw [HS.out.2.2.2.2.1.x.size]; show N0 / 2 ≤ N0; omega)
          rw [hnx] at hcall
          obtain ⟨n1, hn1⟩ : ∃ n1, n1 = s.length := ⟨_, rfl⟩
          simp only at hcall
          rw [← hn1] at hcall
          have HC := Lib.hid hcall
          have HX := Lib.hid (And.intro hfr2 (And.intro hn1 hkm))
          clear hcall hnx hfr hfr2 hn1 hxp hnp hdrop hkm hk
          go_wp2_with fail
          refine HC.out.mono ?_
          rintro e w5 ⟨X5, c5, rfl, hr5, _, _, _, _, k5, hi5⟩
          have hg5 := HR.out.2.2.1.next HR.out.1 k5 hi5
          have hap : ∀ j, oneB a2 j → ¬ B j := fun j e e2 => HR.out.2.2.1.apart HR.out.1 e2 (.inr e)
          have hu5 := HR.out.2.2.2.1.keep k5 hap
          have hv5 := HR.out.2.2.2.2.1.keep k5 hap
          have H5 := Lib.hid (And.intro hg5 (And.intro hu5 hv5))
          clear hg5 hu5 hv5 k5 hi5 hap
          go_wp2_with (first
            | (refine wpList_gd (by rfl) (exec_bs2 (.tmp 137) X5 n1 c5 s rfl rfl HX.out.2.1.symm hr5) ?_)
            | fail)
          go_roundw
          case rel => exact ⟨k + 1, by go_num, HX.out.2.2, _, _, upA_same _ _ _, by rw [upA_ne _ _ _ _ HG3.out.2.2.2]; exact HR.out.2.1, H5.out.1, H5.out.2.1, H5.out.2.2, HX.out.1⟩
          case measure => simp [intOf]; have := HX.out.2.2; omega
        · obtain rfl : m = k := by omega
          clear hk hkm
          go_wp2
          go_loopw [145] (fun iv wx => ∃ k : Nat, iv = .int .i64 k ∧ k ≤ mv ∧ ∃ (P : Nat) (t : Nat → Option Ar), t b2 = some ⟨2 * (N0 / 2), P⟩ ∧ Gd w wx g N S W cW D t B ∧ Lst wx V mv cv vs B ∧ Fr D.now P (vs.drop k) Y.pos)
            (fun iv _ => mv - (intOf iv).toNat)
          case atStart => exact ⟨0, rfl, Nat.zero_le _, _, _, HR.out.2.1, HR.out.2.2.1, HR.out.2.2.2.2.1, HS.out.2.2.2.2.1.y.fr⟩
          case round =>
            rename World => wx
            obtain ⟨k2, rfl, hk, P, t, htb, hg, hv, hfr⟩ := hrel
            have HR := Lib.hid (And.intro htb (And.intro hg (And.intro hv hfr)))
            clear htb hg hv hfr
            by_cases hkm : k2 < mv
            · have hkm2 : (k2 : Int) < (mv : Int) := by omega
              obtain ⟨bb, oo, s, rfl, hcell, hdrop⟩ := HR.out.2.2.1.at_ hkm
              have hxp : Y.pos ≤ 2 * (N0 / 2) := by have h1 := HS.out.2.2.2.2.1.y.pos; have h2 := HS.out.2.2.2.2.2.2.2.2; omega
              have hfr := HR.out.2.2.2
              rw [hdrop] at hfr
              obtain ⟨hnx, hfr2⟩ := read_on HS.out.2.2.2.2.1.x.off hfr hxp
              have hnp : (⟨2 * (N0 / 2), P⟩ : Ar).pos ≤ (⟨2 * (N0 / 2), P⟩ : Ar).top := by have h1 := hfr.le; show P ≤ 2 * (N0 / 2); omega
              have hcall := next_c D g N S W cW b2 ⟨2 * (N0 / 2), P⟩ wx HR.out.2.1.cd (HR.out.2.1.ar b2 _ HR.out.1).1 (HR.out.2.1.ar b2 _ HR.out.1).2.2 hnp (by rw [HS.out.2.2.2.2.1.x.size]; show 2 * (N0 / 2) ≤ N0; omega)
              rw [hnx] at hcall
              obtain ⟨n1, hn1⟩ : ∃ n1, n1 = s.length := ⟨_, rfl⟩
              simp only at hcall
              rw [← hn1] at hcall
              have HC := Lib.hid hcall
              have HX := Lib.hid (And.intro hfr2 (And.intro hn1 hkm))
              clear hcall hnx hfr hfr2 hn1 hxp hnp hdrop hkm hk
              go_wp2_with fail
              refine HC.out.mono ?_
              rintro e w5 ⟨X5, c5, rfl, hr5, _, _, _, _, k5, hi5⟩
              have hg5 := HR.out.2.1.next HR.out.1 k5 hi5
              have hap : ∀ j, oneB b2 j → ¬ B j := fun j e e2 => HR.out.2.1.apart HR.out.1 e2 (.inr e)
              have hv5 := HR.out.2.2.1.keep k5 hap
              have H5 := Lib.hid (And.intro hg5 hv5)
              clear hg5 hv5 k5 hi5 hap
              go_wp2_with (first
                | (refine wpList_gd (by rfl) (exec_bs2 (.tmp 157) X5 n1 c5 s rfl rfl HX.out.2.1.symm hr5) ?_)
                | fail)
              go_roundw
              case rel => exact ⟨k2 + 1, by go_num, HX.out.2.2, _, _, upA_same _ _ _, H5.out.1, H5.out.2, HX.out.1⟩
              case measure => simp [intOf]; have := HX.out.2.2; omega
            · obtain rfl : mv = k2 := by omega
              go_wp2
              go_ret
              exact ⟨rfl, HR.out.2.1.kp⟩
    · have htest : ((i : Int) < (p : Int)) ∨ (¬ ((i : Int) < (p : Int)) ∧ ((i : Int) < (q : Int))) := by omega
      have HIL : Hid (i < L) := Lib.hid (by have := HL.out; omega)
      clear hout hi
      rcases htest with h0 | ⟨h0, h0b⟩
      all_goals
        go_upto_block 1 with fail
        clear h0
        try clear h0b
        refine wp_block ?_
        refine wp_seq_k (fun K1 hK1 => ?_)
        go_cut [10] from 45 to 118 (fun v10 wx => St w N0 g N S a b (2 * i + 1) v10 (.slice V mv cv) wx)
        case first =>
          clear hK1
          by_cases hip : i < p
          · obtain ⟨bb, oo, s, rfl, hcell, hsm⟩ := row_str (HP.out.2.1.keep0 HS.out.1.kp) (k := i) (by rw [HP.out.1]; exact hip)
            have hsz := str_size s
            have hip2 : (i : Int) < (p : Int) := by omega
            by_cases hlen : s.length < 1024
            · have hlen2 : (s.length : Int) < 1024 := by omega
              have hF := fun w' => framed_any s w' (by omega)
              have hfl := frm_flen s (by omega)
              have hf0 := frm_pos s
              have hfn : (frm s).length ≤ 1048 := by rw [frm_length]; omega
              obtain ⟨fr, hfr⟩ : ∃ fr, fr = frm s := ⟨_, rfl⟩
              rw [← hfr] at hF hfl hf0 hfn
              obtain ⟨n1, hn1⟩ : ∃ n1, n1 = fr.length := ⟨_, rfl⟩
              rw [← hn1] at hF
              have HF := Lib.hid hF
              have HX := Lib.hid (And.intro hfl (And.intro hf0 (And.intro hfn hn1)))
              have HIP := Lib.hid hip
              clear hF hfl hf0 hfn hfr hn1 hip hlen hsm
              go_wp2_with fail
              refine (HF.out wr).mono ?_
              rintro e w4 ⟨X1, c1, rfl, hr4, k4, hc1, hc2, hc3, hn4⟩
              have hg4 := HS.out.1.grow k4 (fun j e => e.elim)
              have hu4 := (HS.out.2.1.keep0 k4).more (B2 := plusB B wr.heap.size w4.heap.size) (fun j e => .inl e)
              have hv4 := (HS.out.2.2.1.keep0 k4).more (B2 := plusB B wr.heap.size w4.heap.size) (fun j e => .inl e)
              have htw := HS.out.2.2.2.2.1
              have hrl := hr4.lt (fun e => HX.out.2.1 (by rw [← bvs_length fr, e]; rfl))
              have hadd := add_c D g N S W cW a X X1 n1 c1 fr w4 hg4.cd (hg4.ar a X (twoA_a a b X Y)).1 (hg4.ar a X (twoA_a a b X Y)).2.2 htw.x.pos (by rw [htw.x.size]; exact htw.x.top) (htw.far (by have := HIL.out; have := HL.out; omega)) HX.out.2.2.2.symm hr4 hc1 hc2 hc3 (.inr (fun j e => hg4.apart (twoA_a a b X Y) (.inr ⟨hn4 j e, hrl j e⟩))) (by have := HX.out; omega)
              have hcase := htw.add fr HX.out.1 HX.out.2.1
              have H4 := Lib.hid (And.intro hg4 (And.intro hu4 hv4))
              rcases hcase with ⟨hok, ht2⟩ | hfull
              · rw [hok] at hadd
                have HAD := Lib.hid hadd
                have HT2 := Lib.hid ht2
                clear hadd hok ht2 htw hg4 hu4 hv4 hrl hr4 k4 hc1 hc2 hc3 hn4
                go_wp2_with fail
                refine HAD.out.mono ?_
                rintro e w5 ⟨rfl, p5⟩
                obtain ⟨W5, c5, hg5, k5⟩ := H4.out.1.add (twoA_a a b X Y) p5
                rw [up_a] at hg5
                have hu5 := H4.out.2.1.keep k5 (fun j e e2 => H4.out.1.apart (twoA_a a b X Y) e2 e)
                have hv5 := H4.out.2.2.keep k5 (fun j e e2 => H4.out.1.apart (twoA_a a b X Y) e2 e)
                have H5 := Lib.hid (And.intro hg5 (And.intro hu5 hv5))
                have hc5 : w5.cell? ⟨bb, oo + i, none⟩ = some (.string (str s)) := by
                  obtain ⟨b9, o9, e9, _, hc9⟩ := (HP.out.2.1.keep0 hg5.kp).at_ (i := i) (by rw [List.length_map, HP.out.1]; exact HIP.out)
                  cases e9
                  obtain ⟨b8, o8, e8, _, hc8⟩ := (HP.out.2.1.keep0 HS.out.1.kp).at_ (i := i) (by rw [List.length_map, HP.out.1]; exact HIP.out)
                  cases e8
                  rw [hc9, ← hc8]; exact hcell
                clear hg5 hu5 hv5 k5 p5
                go_wp2_with fail
                refine (HF.out w5).mono ?_
                rintro e w6 ⟨X2, c2, rfl, hr6, k6, _, _, _, _⟩
                have k6a : Kp nob w5 (w6.alloc (.cells #[.string (str fr)] 9)) := k6.alloc _
                have hg6 := H5.out.1.grow k6a (fun j e => e.elim)
                have hu6 := (H5.out.2.1.keep0 k6a).more (B2 := plusB (plusB B wr.heap.size w4.heap.size) w5.heap.size (w6.alloc (.cells #[.string (str fr)] 9)).heap.size) (fun j e => .inl e)
                have hv6 := (H5.out.2.2.keep0 k6a).more (B2 := plusB (plusB B wr.heap.size w4.heap.size) w5.heap.size (w6.alloc (.cells #[.string (str fr)] 9)).heap.size) (fun j e => .inl e)
                have H6 := Lib.hid (And.intro hg6 (And.intro hu6 hv6))
                obtain ⟨i0, hi1, hi2, hi3, hi4⟩ := info_parts strI_
                have hn1' := HX.out.2.2.2
                have HN1 := Lib.hid hn1'
                have hm30 : m ≤ 100 := by have := HS.out.2.2.2.2.2; have := HIL.out; have := HL.out; omega
                clear hg6 hu6 hv6 k6 k6a hn1'
                go_wp2_with (first
                  | (refine wpList_gd (by rfl) (exec_bs2 (.tmp 84) X2 n1 c2 fr rfl rfl HN1.out.symm hr6) ?_)
                  | (refine wpList_appKO_gd _ (.tmp 79) (.tmp 86) 47 rfl (by rfl) 1 (by decide) 9 i0 _ 16 strs_under hi1 hi2 hi3 hi4 rfl U m c (lsv us) rfl H6.out.2.1.own (some ⟨w6.heap.size, 0, none⟩) 1 1 [.string (str fr)] rfl (fun e => by cases e) rfl (row_new w6 [.string (str fr)] _) (fun u hu => by rcases List.mem_singleton.1 hu with rfl; rfl) (by omega) (by simp [maxLen]; omega) ?_)
                  | fail)
                intro U2 cu w7 hU hgr hab7
                have hap := H6.out.1.app H6.out.2.1 hU hgr (hab7.imp id (fun h => by rw [h]; simp))
                have hap2 := hap.2.2 _ _ _ _ H6.out.2.2 HS.out.2.2.2.1
                have HAP := Lib.hid (And.intro hap.1 (And.intro hap.2.1 hap2))
                clear hap hap2 hU hgr hab7 hr6 hm30 hi1 hi2 hi3 hi4
                go_wp2
                go_meet
                exact ⟨⟨_, W5, c5, _, Y, U2, m + 1, cu, V, mv, cv, us ++ [fr], vs, _, rfl, rfl, HAP.out.1, HAP.out.2.1, HAP.out.2.2.1, HAP.out.2.2.2, HT2.out, by have := HS.out.2.2.2.2.2; omega, by have := HS.out.2.2.2.2.2; omega, by rw [aAdd_top]; exact HS.out.2.2.2.2.2.2.2.1, HS.out.2.2.2.2.2.2.2.2⟩⟩
              · have HAD := Lib.hid hadd
                have HFU := Lib.hid hfull
                rw [hfull] at HAD
                clear hadd hfull htw hg4 hu4 hv4 hrl hr4 k4 hc1 hc2 hc3 hn4
                go_wp2_with fail
                refine HAD.out.mono ?_
                rintro e w5 ⟨rfl, p5⟩
                obtain ⟨W5, c5, hg5, k5⟩ := H4.out.1.add (twoA_a a b X Y) p5
                rw [up_a, HFU.out] at hg5
                have hu5 := H4.out.2.1.keep k5 (fun j e e2 => H4.out.1.apart (twoA_a a b X Y) e2 e)
                have hv5 := H4.out.2.2.keep k5 (fun j e e2 => H4.out.1.apart (twoA_a a b X Y) e2 e)
                have H5 := Lib.hid (And.intro hg5 (And.intro hu5 hv5))
                clear hg5 hu5 hv5 k5 p5
                go_wp2
                go_meet
                exact ⟨⟨D, W5, c5, X, Y, U, m, c, V, mv, cv, us, vs, _, rfl, rfl, H5.out.1, H5.out.2.1, H5.out.2.2, HS.out.2.2.2.1, HS.out.2.2.2.2.1.up, by have := HS.out.2.2.2.2.2; omega, by have := HS.out.2.2.2.2.2; omega, HS.out.2.2.2.2.2.2.2⟩⟩
            · have hlen2 : ¬ ((s.length : Int) < 1024) := by omega
              clear hip hsm
              go_wp2
              (go_meet; exact HS0.out.up)
          · have hip2 : ¬ ((i : Int) < (p : Int)) := by omega
            clear hip
            go_wp2
            (go_meet; exact HS0.out.up)
        case rest =>
          clear HS HS0
          obtain ⟨D, W, cW, X, Y, U, m, c, V2, mv2, cv2, us, vs, B, rfl, e11, hg, hu, hv, hd, ht, hmi, hmvi, htx, hty⟩ := hcut.ex
          cases e11
          have HS := Lib.hid (And.intro hg (And.intro hu (And.intro hv (And.intro hd (And.intro ht (And.intro hmi (And.intro hmvi (And.intro htx hty))))))))
          have HS0 := Lib.hid hcut
          clear hg hu hv hd ht hmi hmvi htx hty hcut
          refine hK1 _ _ ?_
          clear hK1
          have hi100 : i ≤ 100 := by have := HIL.out; have := HL.out; omega
          by_cases hip : i < q
          · obtain ⟨bb, oo, s, rfl, hcell, hsm⟩ := row_str (HQ.out.2.1.keep0 HS.out.1.kp) (k := i) (by rw [HQ.out.1]; exact hip)
            have hsz := str_size s
            have hip2 : (i : Int) < (q : Int) := by omega
            by_cases hlen : s.length < 1024
            · have hlen2 : (s.length : Int) < 1024 := by omega
              have hF := fun w' => framed_any s w' (by omega)
              have hfl := frm_flen s (by omega)
              have hf0 := frm_pos s
              have hfn : (frm s).length ≤ 1048 := by rw [frm_length]; omega
              obtain ⟨fr, hfr⟩ : ∃ fr, fr = frm s := ⟨_, rfl⟩
              rw [← hfr] at hF hfl hf0 hfn
              obtain ⟨n1, hn1⟩ : ∃ n1, n1 = fr.length := ⟨_, rfl⟩
              rw [← hn1] at hF
              have HF := Lib.hid hF
              have HX := Lib.hid (And.intro hfl (And.intro hf0 (And.intro hfn hn1)))
              have HIP := Lib.hid hip
              clear hF hfl hf0 hfn hfr hn1 hip hlen hsm
              go_wp2_with fail
              refine (HF.out wc).mono ?_
              rintro e w4 ⟨X1, c1, rfl, hr4, k4, hc1, hc2, hc3, hn4⟩
              have hg4 := HS.out.1.grow k4 (fun j e => e.elim)
              have hu4 := (HS.out.2.1.keep0 k4).more (B2 := plusB B wc.heap.size w4.heap.size) (fun j e => .inl e)
              have hv4 := (HS.out.2.2.1.keep0 k4).more (B2 := plusB B wc.heap.size w4.heap.size) (fun j e => .inl e)
              have htw := HS.out.2.2.2.2.1.swap
              have hrl := hr4.lt (fun e => HX.out.2.1 (by rw [← bvs_length fr, e]; rfl))
              have hadd := add_c D g N S W cW b Y X1 n1 c1 fr w4 hg4.cd (hg4.ar b Y (twoA_b a b X Y HAB.out)).1 (hg4.ar b Y (twoA_b a b X Y HAB.out)).2.2 htw.x.pos (by rw [htw.x.size]; exact htw.x.top) (htw.far (by have := HIL.out; have := HL.out; omega)) HX.out.2.2.2.symm hr4 hc1 hc2 hc3 (.inr (fun j e => hg4.apart (twoA_b a b X Y HAB.out) (.inr ⟨hn4 j e, hrl j e⟩))) (by have := HX.out; omega)
              have hcase := htw.add fr HX.out.1 HX.out.2.1
              have H4 := Lib.hid (And.intro hg4 (And.intro hu4 hv4))
              rcases hcase with ⟨hok, ht2⟩ | hfull
              · rw [hok] at hadd
                have HAD := Lib.hid hadd
                have HT2 := Lib.hid ht2
                clear hadd hok ht2 htw hg4 hu4 hv4 hrl hr4 k4 hc1 hc2 hc3 hn4
                go_wp2_with fail
                refine HAD.out.mono ?_
                rintro e w5 ⟨rfl, p5⟩
                obtain ⟨W5, c5, hg5, k5⟩ := H4.out.1.add (twoA_b a b X Y HAB.out) p5
                rw [up_b _ _ _ _ _ HAB.out] at hg5
                have hu5 := H4.out.2.1.keep k5 (fun j e e2 => H4.out.1.apart (twoA_b a b X Y HAB.out) e2 e)
                have hv5 := H4.out.2.2.keep k5 (fun j e e2 => H4.out.1.apart (twoA_b a b X Y HAB.out) e2 e)
                have H5 := Lib.hid (And.intro hg5 (And.intro hu5 hv5))
                have hc5 : w5.cell? ⟨bb, oo + i, none⟩ = some (.string (str s)) := by
                  obtain ⟨b9, o9, e9, _, hc9⟩ := (HQ.out.2.1.keep0 hg5.kp).at_ (i := i) (by rw [List.length_map, HQ.out.1]; exact HIP.out)
                  cases e9
                  obtain ⟨b8, o8, e8, _, hc8⟩ := (HQ.out.2.1.keep0 HS.out.1.kp).at_ (i := i) (by rw [List.length_map, HQ.out.1]; exact HIP.out)
                  cases e8
                  rw [hc9, ← hc8]; exact hcell
                clear hg5 hu5 hv5 k5 p5
                go_wp2_with fail
                refine (HF.out w5).mono ?_
                rintro e w6 ⟨X2, c2, rfl, hr6, k6, _, _, _, _⟩
                have k6a : Kp nob w5 (w6.alloc (.cells #[.string (str fr)] 9)) := k6.alloc _
                have hg6 := H5.out.1.grow k6a (fun j e => e.elim)
                have hu6 := (H5.out.2.1.keep0 k6a).more (B2 := plusB (plusB B wc.heap.size w4.heap.size) w5.heap.size (w6.alloc (.cells #[.string (str fr)] 9)).heap.size) (fun j e => .inl e)
                have hv6 := (H5.out.2.2.keep0 k6a).more (B2 := plusB (plusB B wc.heap.size w4.heap.size) w5.heap.size (w6.alloc (.cells #[.string (str fr)] 9)).heap.size) (fun j e => .inl e)
                have H6 := Lib.hid (And.intro hg6 (And.intro hu6 hv6))
                obtain ⟨i0, hi1, hi2, hi3, hi4⟩ := info_parts strI_
                have hn1' := HX.out.2.2.2
                have HN1 := Lib.hid hn1'
                have hm30 : mv ≤ 100 := by have := HS.out.2.2.2.2.2; have := HIL.out; have := HL.out; omega
                clear hg6 hu6 hv6 k6 k6a hn1'
                go_wp2_with (first
                  | (refine wpList_gd (by rfl) (exec_bs2 (.tmp 115) X2 n1 c2 fr rfl rfl HN1.out.symm hr6) ?_)
                  | (refine wpList_appKO_gd _ (.tmp 110) (.tmp 117) 47 rfl (by rfl) 1 (by decide) 9 i0 _ 16 strs_under hi1 hi2 hi3 hi4 rfl V mv cv (lsv vs) rfl H6.out.2.2.own (some ⟨w6.heap.size, 0, none⟩) 1 1 [.string (str fr)] rfl (fun e => by cases e) rfl (row_new w6 [.string (str fr)] _) (fun u hu => by rcases List.mem_singleton.1 hu with rfl; rfl) (by omega) (by simp [maxLen]; omega) ?_)
                  | fail)
                intro U2 cu w7 hU hgr hab7
                have hap := H6.out.1.app H6.out.2.2 hU hgr (hab7.imp id (fun h => by rw [h]; simp))
                have hap2 := hap.2.2 _ _ _ _ H6.out.2.1 (fun j e e2 => HS.out.2.2.2.1 j e2 e)
                have HAP := Lib.hid (And.intro hap.1 (And.intro hap.2.1 hap2))
                clear hap hap2 hU hgr hab7 hr6 hm30 hi1 hi2 hi3 hi4
                go_wp2
                go_roundw
                case rel => exact ⟨i + 1, by go_num, HIL.out, ⟨⟨_, W5, c5, X, _, U, m, c, U2, mv + 1, cu, us, vs ++ [fr], _, rfl, rfl, HAP.out.1, HAP.out.2.2.1, HAP.out.2.1, (fun j e e2 => HAP.out.2.2.2 j e2 e), HT2.out.swap, by have := HS.out.2.2.2.2.2; omega, by have := HS.out.2.2.2.2.2; omega, HS.out.2.2.2.2.2.2.2.1, by rw [aAdd_top]; exact HS.out.2.2.2.2.2.2.2.2⟩⟩⟩
                case measure => simp [intOf]; have := HIL.out; omega
              · have HAD := Lib.hid hadd
                have HFU := Lib.hid hfull
                rw [hfull] at HAD
                clear hadd hfull htw hg4 hu4 hv4 hrl hr4 k4 hc1 hc2 hc3 hn4
                go_wp2_with fail
                refine HAD.out.mono ?_
                rintro e w5 ⟨rfl, p5⟩
                obtain ⟨W5, c5, hg5, k5⟩ := H4.out.1.add (twoA_b a b X Y HAB.out) p5
                rw [up_b _ _ _ _ _ HAB.out, HFU.out] at hg5
                have hu5 := H4.out.2.1.keep k5 (fun j e e2 => H4.out.1.apart (twoA_b a b X Y HAB.out) e2 e)
                have hv5 := H4.out.2.2.keep k5 (fun j e e2 => H4.out.1.apart (twoA_b a b X Y HAB.out) e2 e)
                have H5 := Lib.hid (And.intro hg5 (And.intro hu5 hv5))
                clear hg5 hu5 hv5 k5 p5
                go_wp2
                go_roundw
                case rel => exact ⟨i + 1, by go_num, HIL.out, ⟨⟨D, W5, c5, X, Y, U, m, c, V, mv, cv, us, vs, _, rfl, rfl, H5.out.1, H5.out.2.1, H5.out.2.2, HS.out.2.2.2.1, HS.out.2.2.2.2.1.up, by have := HS.out.2.2.2.2.2; omega, by have := HS.out.2.2.2.2.2; omega, HS.out.2.2.2.2.2.2.2⟩⟩⟩
                case measure => simp [intOf]; have := HIL.out; omega
            · have hlen2 : ¬ ((s.length : Int) < 1024) := by omega
              clear hip hsm
              go_wp2
              go_roundw
              case rel => exact ⟨i + 1, by go_num, HIL.out, HS0.out.up⟩
              case measure => simp [intOf]; have := HIL.out; omega
          · have hip2 : ¬ ((i : Int) < (q : Int)) := by omega
            clear hip
            go_wp2
            go_roundw
            case rel => exact ⟨i + 1, by go_num, HIL.out, HS0.out.up⟩
            case measure => simp [intOf]; have := HIL.out; omega
end Go.Proofs.Ytndkmfflpphoiaa.Disk
