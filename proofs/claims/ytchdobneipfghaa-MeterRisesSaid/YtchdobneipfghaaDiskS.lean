/- Sectors whose power can go, on lists: what is there, what is safe, what waits; what stands behind a loss of power. No program is named here. -/
import Derived.Test.YtchdobneipfghaaKit
namespace Go.Proofs.Ytchdobneipfghaa.Disk
set_option linter.unusedVariables false
set_option linter.unusedSimpArgs false

/-- A sector's bytes: noughts behind those that are given. -/
def full (b : List UInt8) : List UInt8 := b ++ List.replicate (256 - b.length) 0
theorem full_length (b : List UInt8) (h : b.length ≤ 256) : (full b).length = 256 := by rw [full, List.length_append, List.length_replicate]; omega
/-- A disk: its sectors, what of them is safe, the writes that aren't, its power, its acts, its fuse. -/
structure Dk where
  now : List (List UInt8)
  safe : List (List UInt8)
  waits : List (Nat × List UInt8)
  off : Bool
  acts : Nat
  fuse : Nat
  keep : Nat
/-- What stands always. -/
structure Ok (d : Dk) : Prop where
  safe : d.safe.length = d.now.length
  now : ∀ s ∈ d.now, s.length = 256
  safe2 : ∀ s ∈ d.safe, s.length = 256
  waits : ∀ x ∈ d.waits, x.1 < d.now.length ∧ x.2.length = 256
def new (n : Nat) : Dk := ⟨List.replicate n (full []), List.replicate n (full []), [], false, 0, 0, 0⟩
theorem new_ok (n : Nat) : Ok (new n) := ⟨by simp [new], fun s h => by rw [List.eq_of_mem_replicate h]; exact full_length [] (by decide), fun s h => by rw [List.eq_of_mem_replicate h]; exact full_length [] (by decide), fun x h => by cases h⟩
/-- Is the i-th write kept? -/
def kept (keep i : Nat) : Bool := decide (keep / 2 ^ (i % 64) % 2 = 1)
/-- The writes from the i-th on, gone over. -/
def over (keep : Nat) : Nat → List (Nat × List UInt8) → List (List UInt8) → List (List UInt8)
  | _, [], s => s
  | i, x :: xs, s => over keep (i + 1) xs (if kept keep i then s.set x.1 x.2 else s)
theorem over_length (keep : Nat) : ∀ (xs : List (Nat × List UInt8)) (i : Nat) (s : List (List UInt8)), (over keep i xs s).length = s.length
  | [], _, _ => rfl
  | x :: xs, i, s => by rw [over, over_length keep xs]; split <;> simp
theorem over_snoc (keep : Nat) (y : Nat × List UInt8) : ∀ (xs : List (Nat × List UInt8)) (i : Nat) (s : List (List UInt8)), over keep i (xs ++ [y]) s = if kept keep (i + xs.length) then (over keep i xs s).set y.1 y.2 else over keep i xs s
  | [], i, s => by simp [over]
  | x :: xs, i, s => by
    rw [List.cons_append, over, over, over_snoc keep y xs]
    rw [show i + 1 + xs.length = i + (x :: xs).length by simp; omega]
/-- A sector behind it is what it was, or one of its writes. -/
theorem over_at (keep p : Nat) : ∀ (xs : List (Nat × List UInt8)) (i : Nat) (s : List (List UInt8)) (v : List UInt8), (over keep i xs s)[p]? = some v → s[p]? = some v ∨ (p, v) ∈ xs
  | [], _, _, _, h => .inl h
  | x :: xs, i, s, v, h => by
    rw [over] at h
    rcases over_at keep p xs _ _ _ h with h1 | h1
    · split at h1
      · rw [List.getElem?_set] at h1
        split at h1
        · rename_i he
          split at h1
          · right; rw [← he]; rw [← Option.some.inj h1]; simp
          · cases h1
        · exact .inl h1
      · exact .inl h1
    · exact .inr (List.mem_cons_of_mem _ h1)
theorem over_far (keep p : Nat) : ∀ (xs : List (Nat × List UInt8)) (i : Nat) (s : List (List UInt8)), (∀ x ∈ xs, x.1 ≠ p) → (over keep i xs s)[p]? = s[p]?
  | [], _, _, _ => rfl
  | x :: xs, i, s, h => by
    rw [over, over_far keep p xs _ _ (fun y hy => h y (List.mem_cons_of_mem _ hy))]
    split
    · rw [List.getElem?_set, if_neg (h x (by simp))]
    · rfl
theorem over_mem (keep : Nat) : ∀ (xs : List (Nat × List UInt8)) (i : Nat) (s : List (List UInt8)) (v : List UInt8), v ∈ over keep i xs s → v ∈ s ∨ ∃ x ∈ xs, x.2 = v := fun xs i s v h => by
  obtain ⟨p, hp, rfl⟩ := List.mem_iff_getElem.1 h
  rcases over_at keep p xs i s _ (List.getElem?_eq_getElem hp) with h1 | h1
  · exact .inl (List.mem_of_getElem? h1)
  · exact .inr ⟨_, h1, rfl⟩
/-- The power goes. -/
def lose (d : Dk) (keep : Nat) : Dk := if d.off then d else ⟨over keep 0 d.waits d.safe, over keep 0 d.waits d.safe, [], true, d.acts, 0, d.keep⟩
theorem lose_off (d : Dk) (keep : Nat) (h : d.off = true) : lose d keep = d := by rw [lose, if_pos h]
theorem lose_on (d : Dk) (keep : Nat) (h : d.off = false) : lose d keep = ⟨over keep 0 d.waits d.safe, over keep 0 d.waits d.safe, [], true, d.acts, 0, d.keep⟩ := by rw [lose, h]; rfl
theorem lose_ok (d : Dk) (keep : Nat) (h : Ok d) : Ok (lose d keep) := by
  cases ho : d.off with
  | true => rw [lose_off d keep ho]; exact h
  | false =>
    rw [lose_on d keep ho]
    have hm : ∀ s ∈ over keep 0 d.waits d.safe, s.length = 256 := fun s hs => by
      rcases over_mem keep _ _ _ _ hs with h1 | ⟨x, hx, rfl⟩
      · exact h.safe2 s h1
      · exact (h.waits x hx).2
    exact ⟨rfl, hm, hm, fun x hx => by cases hx⟩
theorem lose_length (d : Dk) (keep : Nat) (h : Ok d) : (lose d keep).now.length = d.now.length := by
  cases ho : d.off with
  | true => rw [lose_off d keep ho]
  | false => rw [lose_on d keep ho]; simp only [over_length, h.safe]
/-- One act more; whether the power goes in it. -/
def act (d : Dk) : Dk × Bool := if d.off then (d, false) else ({ d with acts := d.acts + 1, fuse := d.fuse - 1 }, decide (d.fuse = 1))
/-- The errors' numbers are told by whoever names them. -/
structure Errs where
  ok : Int
  down : Int
  arg : Int
  long : Int
/-- The errors' numbers. -/
def E8 : Errs := ⟨0, 8, 1, 3⟩
def may (E : Errs) (d : Dk) (i : Int) : Int := if d.off then E.down else if i < 0 ∨ (d.now.length : Int) ≤ i then E.arg else E.ok
def wrote (d : Dk) (i : Nat) (b : List UInt8) : Dk := { d with now := d.now.set i (full b), waits := d.waits ++ [(i, full b)] }
def write (E : Errs) (d : Dk) (i : Int) (b : List UInt8) : Dk × Int :=
  if d.off then (d, E.down) else if i < 0 ∨ (d.now.length : Int) ≤ i then (d, E.arg) else if 256 < b.length then (d, E.long)
  else if (act d).2 then (lose (wrote (act d).1 i.toNat b) d.keep, E.down) else (wrote (act d).1 i.toNat b, E.ok)
def sync (E : Errs) (d : Dk) : Dk × Int :=
  if d.off then (d, E.down) else if (act d).2 then (lose (act d).1 d.keep, E.down) else ({ (act d).1 with safe := d.now, waits := [] }, E.ok)
def arm (d : Dk) (n : Int) (keep : Nat) : Dk := { d with fuse := n.toNat, keep := keep }
def forged (d : Dk) (i : Nat) (b : List UInt8) : Dk := { d with now := d.now.set i (full b), safe := d.safe.set i (full b), waits := d.waits.filter fun x => decide (x.1 ≠ i) }
def forge (E : Errs) (d : Dk) (i : Int) (b : List UInt8) : Dk × Int :=
  if i < 0 ∨ (d.now.length : Int) ≤ i then (d, E.arg) else if 256 < b.length then (d, E.long) else (forged d i.toNat b, E.ok)
def image (d : Dk) : List UInt8 := d.now.flatten
def on (d : Dk) : Dk := { d with off := false }
theorem act_off (d : Dk) (h : d.off = true) : act d = (d, false) := by rw [act, if_pos h]
theorem act_on (d : Dk) (h : d.off = false) : act d = ({ d with acts := d.acts + 1, fuse := d.fuse - 1 }, decide (d.fuse = 1)) := by rw [act, h]; rfl
theorem act_ok (d : Dk) (h : Ok d) : Ok (act d).1 := by
  cases ho : d.off with
  | true => rw [act_off d ho]; exact h
  | false => rw [act_on d ho]; exact ⟨h.safe, h.now, h.safe2, h.waits⟩
theorem set_all {l : List (List UInt8)} {i : Nat} {s : List UInt8} (h : ∀ x ∈ l, x.length = 256) (hs : s.length = 256) : ∀ x ∈ l.set i s, x.length = 256 := fun x hx => by
  rcases List.mem_or_eq_of_mem_set hx with h1 | h1
  · exact h x h1
  · rw [h1]; exact hs
theorem wrote_ok (d : Dk) (i : Nat) (b : List UInt8) (h : Ok d) (hi : i < d.now.length) (hb : b.length ≤ 256) : Ok (wrote d i b) := by
  refine ⟨by simp [wrote, h.safe], set_all h.now (full_length b hb), h.safe2, fun x hx => ?_⟩
  simp only [wrote, List.length_set]
  rcases List.mem_append.1 hx with h1 | h1
  · exact h.waits x h1
  · rw [List.mem_singleton.1 h1]; exact ⟨hi, full_length b hb⟩
theorem forged_ok (d : Dk) (i : Nat) (b : List UInt8) (h : Ok d) (hb : b.length ≤ 256) : Ok (forged d i b) := by
  refine ⟨by simp [forged, h.safe], set_all h.now (full_length b hb), set_all h.safe2 (full_length b hb), fun x hx => ?_⟩
  simp only [forged, List.length_set]
  exact h.waits x ((List.mem_filter.1 hx).1)
theorem write_ok (E : Errs) (d : Dk) (i : Int) (b : List UInt8) (h : Ok d) : Ok (write E d i b).1 := by
  unfold write
  split
  · exact h
  · split
    · exact h
    · split
      · exact h
      · rename_i h1 h2 h3
        have hw := wrote_ok (act d).1 i.toNat b (act_ok d h) (by rw [act_on d (by simpa using h1)]; simp only; omega) (by omega)
        split
        · exact lose_ok _ _ hw
        · exact hw
theorem sync_ok (E : Errs) (d : Dk) (h : Ok d) : Ok (sync E d).1 := by
  unfold sync
  split
  · exact h
  · rename_i h1
    split
    · exact lose_ok _ _ (act_ok d h)
    · rw [act_on d (by simpa using h1)]
      exact ⟨rfl, h.now, h.now, fun x hx => by cases hx⟩
theorem forge_ok (E : Errs) (d : Dk) (i : Int) (b : List UInt8) (h : Ok d) : Ok (forge E d i b).1 := by
  unfold forge
  split
  · exact h
  · split
    · exact h
    · exact forged_ok _ _ _ h (by omega)

/-- What a sector may be behind a loss of power: all of these; the last of them is what it is. -/
structure May (d : Dk) (m : Nat → List (List UInt8)) : Prop where
  ok : Ok d
  now : d.off = false → ∀ p v, d.now[p]? = some v → (m p).getLast? = some v
  safe : ∀ p v, d.safe[p]? = some v → v ∈ m p
  waits : ∀ x ∈ d.waits, x.2 ∈ m x.1
  off : d.off = true → ∀ p v, d.now[p]? = some v → v ∈ m p
theorem May.lose {d : Dk} {m : Nat → List (List UInt8)} (h : May d m) (keep : Nat) : ∀ p v, (lose d keep).now[p]? = some v → v ∈ m p := by
  cases ho : d.off with
  | true => rw [lose_off d keep ho]; exact h.off ho
  | false =>
    rw [lose_on d keep ho]
    intro p v hv
    rcases over_at keep p _ _ _ _ hv with h1 | h1
    · exact h.safe p v h1
    · exact h.waits _ h1
theorem May.lost {d : Dk} {m : Nat → List (List UInt8)} (h : May d m) (keep : Nat) (hoff : (Disk.lose d keep).off = true) : May (Disk.lose d keep) m := by
  have hl := h.lose keep
  refine ⟨lose_ok d keep h.ok, (fun e => by rw [hoff] at e; cases e), ?_, ?_, fun _ => hl⟩
  · cases ho : d.off with
    | true => rw [lose_off d keep ho]; exact h.safe
    | false =>
      rw [lose_on d keep ho] at hl ⊢
      exact hl
  · cases ho : d.off with
    | true => rw [lose_off d keep ho]; exact h.waits
    | false => rw [lose_on d keep ho]; intro x hx; cases hx
theorem lose_is_off (d : Dk) (keep : Nat) : (lose d keep).off = true := by
  cases ho : d.off with
  | true => rw [lose_off d keep ho]; exact ho
  | false => rw [lose_on d keep ho]
/-- One text more for a sector. -/
def add (m : Nat → List (List UInt8)) (p : Nat) (s : List UInt8) : Nat → List (List UInt8) := fun q => if q = p then m q ++ [s] else m q
theorem mem_add {m : Nat → List (List UInt8)} {p : Nat} {s : List UInt8} {q : Nat} {v : List UInt8} (h : v ∈ m q) : v ∈ add m p s q := by
  unfold add; split
  · exact List.mem_append_left _ h
  · exact h
theorem May.wrote {d : Dk} {m : Nat → List (List UInt8)} (h : May d m) (ho : d.off = false) (i : Nat) (b : List UInt8) (hi : i < d.now.length) (hb : b.length ≤ 256) : May (Disk.wrote (act d).1 i b) (add m i (full b)) := by
  rw [act_on d ho]
  refine ⟨wrote_ok _ i b ⟨h.ok.safe, h.ok.now, h.ok.safe2, h.ok.waits⟩ hi hb, fun _ p v hv => ?_, fun p v hv => mem_add (h.safe p v hv), fun x hx => ?_, fun e => ?_⟩
  · simp only [Disk.wrote, List.getElem?_set] at hv
    unfold add
    by_cases e : i = p
    · subst e
      rw [if_pos rfl, if_pos hi] at hv
      rw [if_pos rfl, List.getLast?_append, ← Option.some.inj hv]; rfl
    · rw [if_neg e] at hv
      rw [if_neg (fun x => e x.symm)]
      exact h.now ho p v hv
  · rcases List.mem_append.1 hx with h1 | h1
    · exact mem_add (h.waits x h1)
    · rw [List.mem_singleton.1 h1]; unfold add; rw [if_pos rfl]; simp
  · have : d.off = true := e
    rw [ho] at this; cases this
/-- A write that is answered. -/
theorem May.write {d : Dk} {m : Nat → List (List UInt8)} (E : Errs) (h : May d m) (ho : d.off = false) (i : Nat) (b : List UInt8) (hi : i < d.now.length) (hb : b.length ≤ 256) : May (Disk.write E d i b).1 (add m i (full b)) := by
  have hw := h.wrote ho i b hi hb
  unfold Disk.write
  rw [if_neg (by rw [ho]; simp), if_neg (by omega), if_neg (by omega), Int.toNat_natCast]
  split
  · exact hw.lost _ (lose_is_off _ _)
  · exact hw
/-- A sync that is answered OK: each sector is just its last. -/
theorem May.synced {d : Dk} {m : Nat → List (List UInt8)} (h : May d m) (ho : d.off = false) (m2 : Nat → List (List UInt8)) (hm : ∀ p v, (m p).getLast? = some v → m2 p = [v]) : May { (act d).1 with safe := d.now, waits := [] } m2 := by
  rw [act_on d ho]
  have hn : ∀ p v, d.now[p]? = some v → m2 p = [v] := fun p v hv => hm p v (h.now ho p v hv)
  refine ⟨⟨rfl, h.ok.now, h.ok.now, (fun x hx => by cases hx)⟩, (fun _ p v hv => by rw [hn p v hv]; rfl), (fun p v hv => by rw [hn p v hv]; simp), (fun x hx => by cases hx), (fun e => ?_)⟩
  have : d.off = true := e
  rw [ho] at this; cases this
/-- What somebody writes is there at once, and behind every loss of power. -/
theorem forged_at (d : Dk) (i : Nat) (b : List UInt8) (hi : i < d.now.length) : (forged d i b).now[i]? = some (full b) := by
  simp [forged, hi]
theorem forged_lose (d : Dk) (i : Nat) (b : List UInt8) (keep : Nat) (h : Ok d) (hi : i < d.now.length) : (lose (forged d i b) keep).now[i]? = some (full b) := by
  cases ho : d.off with
  | true => rw [lose_off _ keep (show (forged d i b).off = true from ho)]; exact forged_at d i b hi
  | false =>
    rw [lose_on _ keep (show (forged d i b).off = false from ho)]
    show (over keep 0 (forged d i b).waits (forged d i b).safe)[i]? = _
    rw [over_far keep i _ _ _ (fun x hx => by have := (List.mem_filter.1 hx).2; simpa using this)]
    simp [forged, h.safe, hi]
theorem forged_far (d : Dk) (i p : Nat) (b : List UInt8) (hp : p ≠ i) : (forged d i b).now[p]? = d.now[p]? := by
  simp [forged, List.getElem?_set, Ne.symm hp]
end Go.Proofs.Ytchdobneipfghaa.Disk
