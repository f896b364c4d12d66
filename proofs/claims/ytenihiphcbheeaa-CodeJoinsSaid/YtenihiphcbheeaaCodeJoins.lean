/- CodeJoins: what one writer writes is what two wrote, one behind the other; a reader of both goes on from the one to the other. -/
import Derived.Test.YtenihiphcbheeaaCodeG
namespace Go.Proofs.Ytenihiphcbheeaa
open Go Go.RowKit Kit

theorem part_info : (Try.prog.info? 39).map (fun i => (i.zero, i.size, i.bytes)) = some (some (.agg #[.int .i64 0, .int .i64 0, .string ⟨#[]⟩, .int .i64 0, .int .i64 0]), 5, 48) := by kernel_rfl
theorem parts_under : Try.prog.underlying 22 = some (.slice 39) := by kernel_rfl

set_option maxHeartbeats 2000000 in
theorem joins_great (A : Option Addr) (m d : Nat) (ps : List PartD) (B : Option Addr) (n c : Nat) (qs : List PartD) (w : World) (hm : ps.length = m) (hp : RowP w A ps) (hd : m ≤ maxLen) (hs : ∀ p ∈ ps, p.s.size ≤ reachBytes)
    (hn : qs.length = n) (hq : RowP w B qs) (hc : n ≤ maxLen) (ht : ∀ p ∈ qs, p.s.size ≤ reachBytes) (hg : greatB ps = true ∨ greatB qs = true) :
    Calls Try.prog 8 #[.slice A m d, .slice B n c] w fun e w' => e = .returned (.bool true) ∧ Kp nob w w' := by
  have hg1 := fun w1 (k : Kp nob w w1) => great_any A m d ps w1 hm (hp.keep0 k) hd hs
  have hg2 := fun w1 (k : Kp nob w w1) => great_any B n c qs w1 hn (hq.keep0 k) hc ht
  cases h1 : greatB ps with
  | true =>
    rw [h1] at hg1
    have G1 := Lib.hid hg1; clear hg1 hg2 h1 hg hs ht
    go_enter Try.func8, Try.ntmps8
    go_wp2_with fail
    refine (alive_yes _).mono ?_
    rintro e w1 ⟨rfl, s1⟩
    go_wp2_with fail
    refine (G1.out w1 s1).mono ?_
    rintro e w2 ⟨rfl, k2⟩
    go_wp2
    go_ret
    exact ⟨rfl, s1.trans k2 (fun _ e => e.elim)⟩
  | false =>
    have h2 : greatB qs = true := by rcases hg with h | h; rw [h] at h1; cases h1; exact h
    rw [h1] at hg1
    rw [h2] at hg2
    have G1 := Lib.hid hg1; have G2 := Lib.hid hg2; clear hg1 hg2 h1 h2 hg hs ht
    go_enter Try.func8, Try.ntmps8
    go_wp2_with fail
    refine (alive_yes _).mono ?_
    rintro e w1 ⟨rfl, s1⟩
    go_wp2_with fail
    refine (G1.out w1 s1).mono ?_
    rintro e w2 ⟨rfl, k2⟩
    have s2 := s1.trans k2 (fun _ e => e.elim)
    go_wp2_with fail
    refine (G2.out w2 s2).mono ?_
    rintro e w3 ⟨rfl, k3⟩
    go_wp2
    go_ret
    exact ⟨rfl, s2.trans k3 (fun _ e => e.elim)⟩

set_option maxHeartbeats 4000000 in
theorem joins_few (A : Option Addr) (m d : Nat) (ps : List PartD) (B : Option Addr) (n c : Nat) (qs : List PartD) (w : World) (hm : ps.length = m) (hp : RowP w A ps) (hd : m ≤ maxLen) (hs : ∀ p ∈ ps, p.s.size ≤ reachBytes)
    (hn : qs.length = n) (hq : RowP w B qs) (hc : n ≤ maxLen) (ht : ∀ p ∈ qs, p.s.size ≤ reachBytes) (hg1 : greatB ps = false) (hg2 : greatB qs = false) (hA : A = none → m = 0) (hB : B = none → n = 0) :
    Calls Try.prog 8 #[.slice A m d, .slice B n c] w fun e w' => e = .returned (.bool true) ∧ Kp nob w w' := by
  have g1 := fun w1 (k : Kp nob w w1) => great_any A m d ps w1 hm (hp.keep0 k) hd hs
  have g2 := fun w1 (k : Kp nob w w1) => great_any B n c qs w1 hn (hq.keep0 k) hc ht
  rw [hg1] at g1
  rw [hg2] at g2
  have f1 := few_of ps hg1
  have f2 := few_of qs hg2
  have F1 := few_great ps hg1
  have F2 := few_great qs hg2
  have F3 : Few (ps ++ qs) := by
    unfold Few
    have : total (ps ++ qs) = total ps + total qs := by simp [total]
    simp only [List.length_append]
    omega
  have hX := (writes_take_len ps ps.length F1).1
  have hY := (writes_take_len qs qs.length F2).1
  rw [List.take_length] at hX hY
  have hm4 : m ≤ 200 := by omega
  have hn4 : n ≤ 200 := by omega
  have G1 := Lib.hid g1; have G2 := Lib.hid g2; have H1 := Lib.hid F1; have H2 := Lib.hid F2; have H3 := Lib.hid F3
  have HA := Lib.hid hA; have HB := Lib.hid hB
  clear g1 g2 hg1 hg2 hs ht f1 f2 F1 F2 F3 hA hB
  obtain ⟨i0, hi, hz0, hz1, hz2⟩ := info_parts part_info
  go_enter Try.func8, Try.ntmps8
  go_wp2_with fail
  refine (alive_yes _).mono ?_
  rintro e w1 ⟨rfl, s1⟩
  go_wp2_with fail
  refine (G1.out w1 s1).mono ?_
  rintro e w2 ⟨rfl, k2⟩
  have s2 := s1.trans k2 (fun _ e => e.elim)
  go_wp2_with fail
  refine (G2.out w2 s2).mono ?_
  rintro e w3 ⟨rfl, k3⟩
  have s3 := s2.trans k3 (fun _ e => e.elim)
  go_wp2_with fail
  refine (written_any A m d ps w3 hm (hp.keep0 s3) H1.out).mono ?_
  rintro e w4 ⟨X, cX, rfl, oX, nX, zX, k4⟩
  have s4 := s3.trans k4 (fun _ e => e.elim)
  go_wp2_with fail
  refine (written_any B n c qs w4 hn (hq.keep0 s4) H2.out).mono ?_
  rintro e w5 ⟨Y, cY, rfl, oY, nY, zY, k5⟩
  have s5 := s4.trans k5 (fun _ e => e.elim)
  have ho : OwnZ 39 5 (w5.alloc (.cells #[] 39)) (some ⟨w5.heap.size, 0, none⟩) 0 0 [] := World.ownsRow_made w5 #[] 0 (Nat.zero_le _) (by simp [maxLen]) rfl
  have hrA := ((hp.keep0 s5).row).alloc (.cells #[] 39)
  go_wp2_with (at_builtin; refine wpList_appZ _ rfl (.tmp 35) (.tmp 36) 22 rfl 39 i0 _ 5 48 parts_under hi hz0 hz1 hz2 rfl (by decide) _ 0 0 [] rfl ho A m d (pcellsAll ps) rfl HA.out (by rw [pcellsAll_length, hm]) hrA (pcellsAll_one ps) (by omega) (by omega) ?_)
  intro M cM w6 hM hgM habM
  have k6 : Kp nob w5 w6 := ((Kp.refl _ _).alloc _).grown hgM (fun k e => .inr (by cases e; exact Nat.le_refl _))
  have s6 := s5.trans k6 (fun _ e => e.elim)
  have hM5 : ∀ k, ab M = some k → w5.heap.size ≤ k := by
    intro k e
    rcases habM with h | h <;> rw [h] at e <;> cases e
    · exact Nat.le_refl _
    · simp
  clear hgM habM ho hrA
  have hrB := ((hq.keep0 s6).row)
  go_wp2_with (at_builtin; refine wpList_appZ _ rfl (.tmp 37) (.tmp 38) 22 rfl 39 i0 _ 5 48 parts_under hi hz0 hz1 hz2 rfl (by decide) M m cM (pcellsAll ps) rfl hM B n c (pcellsAll qs) rfl HB.out (by rw [pcellsAll_length, hn]) hrB (pcellsAll_one qs) (by omega) (by omega) ?_)
  intro N cN w7 hN hgN habN
  have k7 : Kp (rowF M) w6 w7 := (Kp.refl _ _).grown hgN (fun k e => .inl e)
  have k57 : Kp nob w5 w7 := k6.since k7 hM5
  have s7 := s5.trans k57 (fun _ e => e.elim)
  rw [← pcellsAll_append] at hN
  have hpN : RowP w7 N (ps ++ qs) := .of_row hN.row
  have hlen : (ps ++ qs).length = m + n := by simp [hm, hn]
  clear hgN habN hM hrB
  go_wp2_with fail
  refine (written_any N (m + n) cN (ps ++ qs) w7 hlen hpN H3.out).mono ?_
  rintro e w8 ⟨Z, cZ, rfl, oZ, nZ, zZ, k8⟩
  have s8 := s7.trans k8 (fun _ e => e.elim)
  have hZ : writes (ps ++ qs) = writes ps ++ writes qs := by simp [writes]
  rw [hZ] at oZ
  have hZl : (writes (ps ++ qs)).length = (writes ps).length + (writes qs).length := by rw [hZ]; simp
  clear hZ
  obtain ⟨x, hx⟩ : ∃ x, x = writes ps := ⟨_, rfl⟩
  obtain ⟨y, hy⟩ : ∃ y, y = writes qs := ⟨_, rfl⟩
  rw [← hx] at hX oX oZ hZl
  rw [← hy] at hY oY oZ hZl
  rw [List.length_append] at oZ
  rw [hZl, ← hx, ← hy]
  have HX := Lib.hid hx; have HY := Lib.hid hy; have HZ := Lib.hid hZl
  clear hx hy hZl
  have hzl : (x ++ y).length = x.length + y.length := by simp
  go_wp2_with fail
  refine (rRead2 Z (x.length + y.length) cZ (x ++ y) w8 (by simp) (by omega) zZ oZ.row).mono ?_
  rintro e w9 ⟨rb, R9, rfl, r9, k9, n9, u9⟩
  have s9 := s8.trans k9 (fun _ e => e.elim)
  have t1 := rTake rb R9 (x ++ y, false) x.length w9 r9 (by simp; omega)
  unfold TakePost at t1
  rw [show sTake (x ++ y, false) (x.length : Int) = ((x, true), (y, false)) by simp [sTake, can]; omega] at t1
  go_wp2_with fail
  refine t1.mono ?_
  rintro e w10 ⟨U, cU, rfl, oU, nU, R10, r10, k10, a10⟩
  have hrb := n9 rb (.inl rfl)
  have s10 := s9.since k10 (fun k e => by unfold oneF at e; have := s8.size; omega)
  have t2 := rTake rb R10 (y, false) y.length w10 r10 (by simp; omega)
  unfold TakePost at t2
  rw [show sTake (y, false) (y.length : Int) = ((y, true), ([], false)) by simp [sTake, can]] at t2
  go_wp2_with fail
  refine t2.mono ?_
  rintro e w11 ⟨V, cV, rfl, oV, nV, R11, r11, k11, a11⟩
  have s11 := s10.since k11 (fun k e => by unfold oneF at e; have := s8.size; omega)
  have old : ∀ {k : Nat}, k < w8.heap.size → ¬ oneF rb k := fun h e => by unfold oneF at e; omega
  have oU11 := oU.keep k11 (fun k e e' => by unfold oneF at e'; have := nU k e; have := u9 rb (.inl rfl); omega)
  have oX11 := (((((oX.keep k5 (fun _ _ e => e)).keep k57 (fun _ _ e => e)).keep k8 (fun _ _ e => e)).keep k9 (fun _ _ e => e)).keep k10 (fun k e => old (by have := oX.lt k e; have := k5.size; have := k57.size; have := k8.size; omega))).keep k11 (fun k e => old (by have := oX.lt k e; have := k5.size; have := k57.size; have := k8.size; omega))
  have oY11 := ((((oY.keep k57 (fun _ _ e => e)).keep k8 (fun _ _ e => e)).keep k9 (fun _ _ e => e)).keep k10 (fun k e => old (by have := oY.lt k e; have := k57.size; have := k8.size; omega))).keep k11 (fun k e => old (by have := oY.lt k e; have := k57.size; have := k8.size; omega))
  have oZ11 := ((oZ.keep k9 (fun _ _ e => e)).keep k10 (fun k e => old (oZ.lt k e))).keep k11 (fun k e => old (oZ.lt k e))
  have c1 := conv_row w11 Z (x.length + y.length) cZ (x ++ y) hzl oZ11.row
  have c2 := conv_row w11 X x.length cX x rfl oX11.row
  have c3 := conv_row w11 Y y.length cY y rfl oY11.row
  have c4 := conv_row w11 U x.length cU x rfl oU11.row
  have c5 := conv_row w11 V y.length cV y rfl oV.row
  have hsum : str x ++ str y = str (x ++ y) := str_append x y
  have hroom : x.length + y.length ≤ 9223372036854775807 := by omega
  clear hzl t1 t2
  go_wp2_with fail
  refine (rEnd rb R11 ([], false) w11 r11).mono ?_
  rintro e w12 ⟨rfl, rfl⟩
  go_wp2
  go_ret
  exact ⟨rfl, s11⟩

theorem rowP_none {w : World} {ps : List PartD} (h : RowP w none ps) : ps = [] := by
  rcases h with h | ⟨b, o, h, _⟩
  · exact h
  · cases h
theorem joins_any (A : Option Addr) (m d : Nat) (ps : List PartD) (B : Option Addr) (n c : Nat) (qs : List PartD) (w : World) (hm : ps.length = m) (hp : RowP w A ps) (hd : m ≤ maxLen) (hs : ∀ p ∈ ps, p.s.size ≤ reachBytes)
    (hn : qs.length = n) (hq : RowP w B qs) (hc : n ≤ maxLen) (ht : ∀ p ∈ qs, p.s.size ≤ reachBytes) :
    Calls Try.prog 8 #[.slice A m d, .slice B n c] w fun e w' => e = .returned (.bool true) ∧ Kp nob w w' := by
  cases h1 : greatB ps with
  | true => exact joins_great A m d ps B n c qs w hm hp hd hs hn hq hc ht (.inl h1)
  | false =>
    cases h2 : greatB qs with
    | true => exact joins_great A m d ps B n c qs w hm hp hd hs hn hq hc ht (.inr h2)
    | false =>
      refine joins_few A m d ps B n c qs w hm hp hd hs hn hq hc ht h1 h2 ?_ ?_
      · rintro rfl; rw [← hm, rowP_none hp]; rfl
      · rintro rfl; rw [← hn, rowP_none hq]; rfl
end Go.Proofs.Ytenihiphcbheeaa
