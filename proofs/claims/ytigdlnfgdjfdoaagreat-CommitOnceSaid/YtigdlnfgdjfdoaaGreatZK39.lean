/- Lemmas: VauCl ComOx. -/
import Derived.Test.YtigdlnfgdjfdoaaGreatZK38
set_option maxHeartbeats 4000000
set_option maxRecDepth 100000
set_option linter.unusedVariables false
set_option linter.unusedSimpArgs false
namespace Go.Proofs.YtigdlnfgdjfdoaaGreat
namespace Vault
open Go Go.RowKit Kit
theorem clashes_any (v m : Nat) (mk : Value) (ms : List UInt8) (lim : Nat) (ps : List (Value × Value)) (cl : Nat) (w : World) (h : Vb w v m mk ms lim ps cl) :
    Calls Tryz.prog 22 #[.pointer (some ⟨v, 0, none⟩)] w fun e w' => e = .returned (.int .i64 (cl : Nat)) ∧ w = w' := by
 have hc := h.cl_
 clear h
 go_enter Tryz.func22, Tryz.ntmps22
 go_wp2
 go_ret
 exact ⟨rfl, rfl⟩
end Vault
namespace Com
open Go Go.RowKit Kit
open Rec (Rec good ftot fsec split split_flat good_bounds Rrow rcells)
open Ideal (Ts Thing hashT)
open Disk
open Meter (Mt Mk Mb nxt)
theorem Ob.clashes {w wr : World} {z : Zf} {p : Nat} {lo : Option Nat} {i b : Nat} {v : Zv} {D : Dk} {t : Mt} {xs : List Rec} {hist : Nat → List Rec} (h : Ob w wr z p lo i b v D t xs hist) :
    Calls Tryz.prog 22 #[.pointer (some ⟨z.c.v, 0, none⟩)] wr fun e w' => e = .returned (.int .i64 0) ∧ wr = w' := by
 have := Vault.clashes_any z.c.v z.c.m _ z.c.ms z.c.lim _ v.x.cl wr (h.pb.vx.vs.b)
 rw [h.cl] at this
 exact this
def CutR (w wx : World) (z : Zf) (p l i b gs : Nat) (s : Stp) (v6 : Value) (e : Int) (fr : Bool) : Prop :=
 Blk wx gs 35 s.cells ∧ ((e ≠ 8 ∧ ∃ a L v D t xs ys Y cy hist, v6 = .slice Y ys.length cy ∧ ¬ own z v gs ∧ Oc w wx z p l a L i b v D t xs ys fr Y cy hist) ∨ (e = 8 ∧ ∃ v D t xs hist, ¬ own z v gs ∧ Ob w wx z p (some l) i b v D t xs hist))
structure Gs (wr : World) (z : Zf) (v : Zv) (l a gs : Nat) (s : Stp) : Prop where
 b : Blk wr gs 35 s.cells
 n : ¬ own z v gs ∧ gs ≠ l ∧ gs ≠ a
theorem Gs.keep0 {wr w2 : World} {z : Zf} {v : Zv} {l a gs : Nat} {s : Stp} (h : Gs wr z v l a gs s) (k : Kp nob wr w2) : Gs w2 z v l a gs s := ⟨h.b.keep k (fun e => e), h.n⟩
theorem Gs.tp {w wr w2 : World} {z : Zf} {v v2 : Zv} {B : Nat → Prop} {l a a2 gs : Nat} {s : Stp} {e : Int} {n : Nat} {rs : List Rec} {T : Tr} (h : Gs wr z v l a gs s) (q : TP w wr z v B l a e n rs T w2 v2 a2) : Blk w2 gs 35 s.cells ∧ ¬ own z v2 gs :=
 ⟨h.b.keep q.k (fun e => by
  rcases e with e | e | e
  · exact h.n.1 e
  · exact h.n.2.1 e
  · exact h.n.2.2 e), fun e => (q.sub gs e).elim h.n.1 (fun e => by have := h.b.lt; omega)⟩
theorem Oc.turn_c {w wr : World} {z : Zf} {p l a gs : Nat} {s : Stp} {L : Lo} {i b : Nat} {v : Zv} {D : Dk} {t : Mt} {xs ys : List Rec} {fresh : Bool} {Y : Option Addr} {cy : Nat} {hist : Nat → List Rec} (h : Oc w wr z p l a L i b v D t xs ys fresh Y cy hist) (hne : ys ≠ []) (hi : i ≤ 31) (hs : Gs wr z v l a gs s) :
    Calls Tryz.prog 23 #[.pointer (some ⟨l, 0, none⟩), .slice Y ys.length cy] wr fun r w' => ∃ e, r = .returned (.int .i64 e) ∧ CutR w w' z p l (i + 1) b gs s (.slice Y ys.length cy) e (fresh || decide (e = 0)) := by
 have hb := h.o.bb
 refine (Com.turn_c h.g Y ys.length cy ys (700 * i) (400 * i) (h.tin hi Y ys.length cy ys rfl h.row (by have := h.yl; omega) h.yb h.cap.2.2 h.cap.1 h.cap.2.1) _ rfl).mono ?_
 rintro r w' ⟨rfl, v2, a2, q⟩
 obtain ⟨g1, g2⟩ := hs.tp q
 refine ⟨_, rfl, g1, ?_⟩
 rcases h.turn hne hi rfl q with ⟨h8, xs2, hist2, ho⟩ | ⟨h8, xs2, hist2, ho⟩
 · exact .inl ⟨h8, a2, _, v2, _, _, xs2, ys, Y, cy, hist2, rfl, g2, ho⟩
 · exact .inr ⟨h8, v2, _, _, xs2, hist2, g2, ho⟩
theorem Oc.commit_c {w wr : World} {z : Zf} {p l a gs : Nat} {s : Stp} {L : Lo} {i b : Nat} {v : Zv} {D : Dk} {t : Mt} {xs ys : List Rec} {Y : Option Addr} {cy : Nat} {hist : Nat → List Rec} (h : Oc w wr z p l a L i b v D t xs ys true Y cy hist) (hi : i ≤ 31) (hs : Gs wr z v l a gs s) (hok : StpOk w s) (hsb : ∀ r ∈ s.rs, r.body.length ≤ 4096) (hbl : b + s.rs.length ≤ 101) :
    Calls Tryz.prog 24 #[.pointer (some ⟨l, 0, none⟩), .slice s.A s.n s.c] wr fun r w' => ∃ e, r = .returned (.int .i64 e) ∧ Kp (fun j => own z v j ∨ j = l ∨ j = a) wr w' ∧ ((e ≠ 0 ∧ CutR w w' z p l (i + 1) (b + s.rs.length) gs s (.slice Y ys.length cy) e true) ∨
     (e = 0 ∧ Kp nob w w' ∧ Blk w' gs 35 s.cells ∧ Rrow w' Y ys ∧ ∀ w3 Y2 cy2, Kp nob w' w3 → Rrow w3 Y2 (ys ++ s.rs) → ((ys ++ s.rs).length ≤ cy2 ∧ cy2 ≤ maxLen ∧ (Y2 = none → cy2 = 0)) → (∀ j, ab Y2 = some j → w'.heap.size ≤ j ∧ j < w3.heap.size) → CutR w w3 z p l (i + 1) (b + s.rs.length) gs s (.slice Y2 (ys ++ s.rs).length cy2) 0 true)) := by
 have hb := h.o.bb
 have hkw := h.g.b.kp
 have hrow : Rrow wr s.A s.rs := Row.keep0 hok.row hkw
 have hsl := hok.len
 have hep := h.o.ep
 obtain ⟨hyx, hxne, ⟨u, hL⟩, hh1, hh2⟩ := h.fr rfl
 have hlen := h.o.len
 have hLs := hL.s
 refine (Com.commit_c h.g s.A s.n s.c s.rs (700 * i) (400 * i) (h.tin hi s.A s.n s.c s.rs hsl hrow (by omega) hsb hok.nil hok.cap hok.mx) (fun hne j e => ?_) (by omega) (by omega) _ rfl).mono ?_
 · have h1 : j < w.heap.size := Row.lt hok.row (fun e3 => by
     cases hrs : s.rs with
     | nil => exact hne hrs
     | cons r rs => rw [hrs] at e3; simp [rcells] at e3) j e
   exact ⟨fun e2 => by have := h.g.b.new j e2; omega, fun e2 => by have := (h.g.b.be a (.inr (.inr rfl))).1; omega⟩
 rintro r w' ⟨rfl, v2, a2, q⟩
 obtain ⟨g1, g2⟩ := hs.tp q
 refine ⟨_, rfl, q.k, ?_⟩
 rcases h.commit hi (by omega) hsb hbl rfl q with ⟨h8, h0, ho⟩ | ⟨h8, xs2, hist2, ho⟩ | ⟨h0, hr, hbl2, hg2, hist2, ho⟩
 · exact .inl ⟨h0, g1, .inl ⟨h8, a2, _, v2, _, _, xs, ys, Y, cy, hist, rfl, g2, ho.le_ (by omega) hbl⟩⟩
 · exact .inl ⟨by rw [h8]; decide, g1, .inr ⟨h8, v2, _, _, xs2, hist2, g2, ho⟩⟩
 · exact .inr ⟨h0, hg2.b.kp, g1, hr, fun w3 Y2 cy2 k3 hr3 hc3 hf3 => ⟨g1.keep k3 (fun e => e), .inl ⟨by decide, a2, _, v2, _, _, xs ++ s.rs, ys ++ s.rs, Y2, cy2, hist2, rfl, g2, ho w3 Y2 cy2 k3 hr3 hc3 hf3⟩⟩⟩
theorem Oc.arm_c {w wr : World} {z : Zf} {p l a : Nat} {L : Lo} {i b : Nat} {v : Zv} {D : Dk} {t : Mt} {xs ys : List Rec} {fresh : Bool} {Y : Option Addr} {cy : Nat} {hist : Nat → List Rec} (h : Oc w wr z p l a L i b v D t xs ys fresh Y cy hist) (n : Int) (K : Nat) (hn : n ≤ 9223372036854775807) (hK : K < 18446744073709551616) :
    Calls Tryz.prog 14 #[.pointer (some ⟨z.g, 0, none⟩), .int .i64 n, .int .u64 (K : Int)] wr fun e w' => e = .returned (.tuple #[]) ∧ ∃ v2, Oc w w' z p l a L i b v2 (arm D n K) t xs ys fresh Y cy hist ∧ Kp (own z v) wr w' ∧ ∀ j, own z v2 j → own z v j ∨ wr.heap.size ≤ j := by
 refine (arm_any D n K z.g z.N z.S v.W v.cW wr h.g.b.cd).mono ?_
 rintro e w' ⟨rfl, hd, hk⟩
 exact ⟨rfl, h.arm_ n K hn hK ⟨v.W, v.cW, hd, hk.mono (fun j _ e => .inl e), fun _ e => .inl e⟩⟩
theorem Ob.arm_c {w wr : World} {z : Zf} {p : Nat} {lo : Option Nat} {i b : Nat} {v : Zv} {D : Dk} {t : Mt} {xs : List Rec} {hist : Nat → List Rec} (h : Ob w wr z p lo i b v D t xs hist) (n : Int) (K : Nat) (hn : n ≤ 9223372036854775807) (hK : K < 18446744073709551616) :
    Calls Tryz.prog 14 #[.pointer (some ⟨z.g, 0, none⟩), .int .i64 n, .int .u64 (K : Int)] wr fun e w' => e = .returned (.tuple #[]) ∧ ∃ v2, Ob w w' z p lo i b v2 (arm D n K) t xs hist ∧ Kp (own z v) wr w' ∧ ∀ j, own z v2 j → own z v j ∨ wr.heap.size ≤ j := by
 refine (arm_any D n K z.g z.N z.S v.W v.cW wr h.pb.cd).mono ?_
 rintro e w' ⟨rfl, hd, hk⟩
 exact ⟨rfl, h.arm_ n K hn hK ⟨v.W, v.cW, hd, hk.mono (fun j _ e => .inl e), fun _ e => .inl e⟩⟩
theorem Ob.off_c {w wr : World} {z : Zf} {p : Nat} {lo : Option Nat} {i b : Nat} {v : Zv} {D : Dk} {t : Mt} {xs : List Rec} {hist : Nat → List Rec} (h : Ob w wr z p lo i b v D t xs hist) (hi : i ≤ 31) (K : Nat) (hK : K < 18446744073709551616) :
    Calls Tryz.prog 16 #[.pointer (some ⟨z.g, 0, none⟩), .int .u64 (K : Int)] wr fun e w' => e = .returned (.tuple #[]) ∧ ∃ v2, Ob w w' z p lo i b v2 (lose D K) t xs hist ∧ Kp (own z v) wr w' ∧ ∀ j, own z v2 j → own z v j ∨ wr.heap.size ≤ j := by
 refine (off_any D K z.g z.N z.S v.W v.cW wr h.pb.cd (by have := h.sm.waits; omega) hK).mono ?_
 rintro e w' ⟨rfl, hz⟩
 exact ⟨rfl, h.off_ K hz⟩
theorem Ob.on_c {w wr : World} {z : Zf} {p : Nat} {lo : Option Nat} {i b : Nat} {v : Zv} {D : Dk} {t : Mt} {xs : List Rec} {hist : Nat → List Rec} (h : Ob w wr z p lo i b v D t xs hist) :
    Calls Tryz.prog 17 #[.pointer (some ⟨z.g, 0, none⟩)] wr fun e w' => e = .returned (.tuple #[]) ∧ ∃ v2, Ob w w' z p lo i b v2 (on D) t xs hist ∧ Kp (own z v) wr w' ∧ ∀ j, own z v2 j → own z v j ∨ wr.heap.size ≤ j := by
 refine (on_any D z.g z.N z.S v.W v.cW wr h.pb.cd).mono ?_
 rintro e w' ⟨rfl, hd, hk⟩
 exact ⟨rfl, h.on_ ⟨v.W, v.cW, hd, hk.mono (fun j _ e => .inl e), fun _ e => .inl e⟩⟩
theorem Ob.open_c {w wr : World} {z : Zf} {p : Nat} {lo : Option Nat} {i b : Nat} {v : Zv} {D : Dk} {t : Mt} {xs : List Rec} {hist : Nat → List Rec} (h : Ob w wr z p lo i b v D t xs hist) (hi : i ≤ 31) (hoff : D.off = false) :
    Calls Tryz.prog 12 #[.pointer (some ⟨p, 0, none⟩)] wr fun r w' => ∃ l a L v2 Z cz, r = .returned (.tuple #[.slice Z xs.length cz, .int .i64 0]) ∧ Oc w w' z p l a L i b v2 D t xs xs false Z cz hist := by
 have hb := h.bb
 have hl := h.len
 have hep := h.ep
 refine (popen_s0 h.pb h.bl h.s0 hoff (by omega) (h.few.mono (by omega)) (by rw [h.lim]; decide) (by omega)).mono ?_
 rintro r w' ⟨l, a, L, v2, Z, cz, rfl, q⟩
 exact ⟨l, a, L, v2, Z, cz, rfl, h.opened hoff q⟩
theorem NewP.ob {w w' : World} {n : Int} {z : Zf} {v : Zv} {p : Nat} (h : NewP w w' n 1099511627776 1099511627776 z v p) (hn : n ≤ 100) : Ob w w' z p none 0 1 v (new (clamp n)) (Meter.fresh 1099511627776) [] (fun _ => []) := by
 have hlen : (new (clamp n)).now.length = clamp n := by simp [new]
 refine ⟨h.b, h.p, ?_, by rw [h.sl]; exact Vault.told_nil _, h.cl, Int.le_refl _, .inl rfl, fun _ _ => rfl, by rw [h.o]; exact Nat.le_refl _, ⟨Nat.zero_le _, Nat.zero_le _, Nat.zero_le _, by show (0 : Nat) < _; decide, rfl⟩, ?_, h.lim, Nat.zero_le _, (fun r hr => by cases hr), by omega, by show Meter.lim _ ≤ _; unfold Meter.lim; omega⟩
 · rw [h.o]
   exact ⟨⟨[], rfl⟩, new_ok _, Int.le_refl _, .inl ⟨rfl, rfl⟩⟩
 · rw [hlen]; unfold clamp; omega
end Com
end Go.Proofs.YtigdlnfgdjfdoaaGreat
