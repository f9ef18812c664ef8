/-
  Mathematics of disks: bytes of blocks side by side, what is laid over them, and blocks that are not flushed.
-/
import Derived.Test.YtfecobkpdmjaeaaHb
namespace Go.Proofs.Ytfecobkpdmjaeaa.Dm
open Go.Proofs.Ytfecobkpdmjaeaa
set_option linter.unusedVariables false
set_option maxRecDepth 20000

def put (l : List Int) (o : Nat) (b : List Int) : List Int := l.take o ++ (b ++ l.drop (o + b.length))
def blk (l : List Int) (n : Nat) : List Int := (l.drop (64 * n)).take 64
abbrev F := List (Nat × List Int)
def look : F → Nat → Option (List Int)
  | [], _ => none
  | x :: r, n => if x.1 = n then some x.2 else look r n
def set : F → Nat → List Int → F
  | [], n, b => [(n, b)]
  | x :: r, n, b => if x.1 = n then (n, b) :: r else x :: set r n b
structure A where
  last : List Int
  fresh : F
  down : Bool
def many (z : Int) : Nat := (min (max z 0) 64).toNat
def layAll (l : List Int) (f : List ((Nat × List Int) × Int)) : List Int := f.foldl (fun l x => put l (64 * x.1.1) (x.1.2.take (many x.2))) l
def now (a : A) : List Int := a.fresh.foldl (fun l x => put l (64 * x.1) x.2) a.last
def read (a : A) (m : Nat) : List Int := (look a.fresh m).getD (blk a.last m)
def write (a : A) (n : Nat) (b : List Int) : A := { a with fresh := set a.fresh n b }
def flush (a : A) : A := { last := now a, fresh := [], down := a.down }
def crash (a : A) (fs : List Int) : A := { last := layAll a.last (a.fresh.zip fs), fresh := [], down := true }
def start (a : A) : A := { a with down := false }
def Fok (f : F) (n : Nat) : Prop := (∀ x ∈ f, x.1 < n ∧ x.2.length = 64 ∧ Byt x.2) ∧ (f.map (·.1)).Nodup
structure Ok (a : A) (n : Nat) : Prop where
  len : a.last.length = 64 * n
  byt : Byt a.last
  small : n ≤ 4096
  fok : Fok a.fresh n

theorem many_le (z : Int) : many z ≤ 64 := by unfold many; omega
theorem many_64 : many 64 = 64 := rfl
theorem put_len {l b : List Int} {o : Nat} (h : o + b.length ≤ l.length) : (put l o b).length = l.length := by
  unfold put; simp; omega
theorem put_byt {l b : List Int} {o : Nat} (hl : Byt l) (hb : Byt b) : Byt (put l o b) := byt_append (byt_take hl _) (byt_append hb (byt_drop hl _))
theorem put_get {l b : List Int} {o : Nat} (h : o + b.length ≤ l.length) (k : Nat) : (put l o b)[k]? = if o ≤ k ∧ k < o + b.length then b[k - o]? else l[k]? := by
  unfold put
  by_cases h1 : k < o
  · rw [if_neg (by omega), List.getElem?_append_left (by simp; omega), List.getElem?_take, if_pos h1]
  · rw [List.getElem?_append_right (by simp; omega)]
    have e : (l.take o).length = o := by simp; omega
    rw [e]
    by_cases h2 : k < o + b.length
    · rw [if_pos ⟨by omega, h2⟩, List.getElem?_append_left (by omega)]
    · rw [if_neg (by omega), List.getElem?_append_right (by omega), List.getElem?_drop]
      congr 1; omega
theorem blk_get (l : List Int) (m k : Nat) : (blk l m)[k]? = if k < 64 then l[64 * m + k]? else none := by
  unfold blk
  rw [List.getElem?_take]
  split
  · rw [List.getElem?_drop]
  · rfl
theorem blk_len {l : List Int} {n m : Nat} (h : l.length = 64 * n) (hm : m < n) : (blk l m).length = 64 := by
  unfold blk; simp; omega
theorem blk_byt {l : List Int} (h : Byt l) (m : Nat) : Byt (blk l m) := byt_take (byt_drop h _) _
theorem blk_put_other {l b : List Int} {n m k : Nat} (hl : l.length = 64 * n) (hk : k < n) (hb : b.length ≤ 64) (hne : m ≠ k) : blk (put l (64 * k) b) m = blk l m := by
  apply List.ext_getElem?
  intro i
  rw [blk_get, blk_get]
  split
  · rw [put_get (by omega), if_neg (by omega)]
  · rfl
theorem blk_put_part {l b : List Int} {n k : Nat} (hl : l.length = 64 * n) (hk : k < n) (hb : b.length ≤ 64) : blk (put l (64 * k) b) k = b ++ (blk l k).drop b.length := by
  apply List.ext_getElem?
  intro i
  rw [blk_get]
  by_cases h1 : i < b.length
  · rw [if_pos (by omega), put_get (by omega), if_pos (by omega), List.getElem?_append_left h1]
    congr 1; omega
  · rw [List.getElem?_append_right (by omega), List.getElem?_drop, blk_get]
    by_cases h2 : i < 64
    · rw [if_pos h2, put_get (by omega), if_neg (by omega), if_pos (by omega)]
      congr 1; omega
    · rw [if_neg h2, if_neg (by omega)]
theorem blk_put_same {l b : List Int} {n k : Nat} (hl : l.length = 64 * n) (hk : k < n) (hb : b.length = 64) : blk (put l (64 * k) b) k = b := by
  rw [blk_put_part hl hk (by omega)]
  have : (blk l k).drop b.length = [] := List.drop_eq_nil_of_le (by rw [blk_len hl hk]; omega)
  rw [this, List.append_nil]
theorem ext_blk {l l' : List Int} {n : Nat} (h : l.length = 64 * n) (h' : l'.length = 64 * n) (hb : ∀ m, m < n → blk l m = blk l' m) : l = l' := by
  apply List.ext_getElem?
  intro i
  by_cases hi : i < 64 * n
  · have := congrArg (·[i % 64]?) (hb (i / 64) (by omega))
    simp only [blk_get, if_pos (Nat.mod_lt i (by omega : 0 < 64))] at this
    have e : 64 * (i / 64) + i % 64 = i := Nat.div_add_mod i 64
    rw [e] at this
    exact this
  · rw [List.getElem?_eq_none (by omega), List.getElem?_eq_none (by omega)]
theorem look_mem {f : F} {m : Nat} {b : List Int} (h : look f m = some b) : (m, b) ∈ f := by
  induction f with
  | nil => cases h
  | cons x r ih =>
    unfold look at h
    split at h
    · rename_i e
      cases h
      subst e
      exact List.mem_cons_self
    · exact List.mem_cons_of_mem _ (ih h)
theorem look_none {f : F} {m : Nat} : look f m = none ↔ m ∉ f.map (·.1) := by
  induction f with
  | nil => simp [look]
  | cons x r ih =>
    unfold look
    split
    · rename_i e; simp [e]
    · rename_i e
      rw [ih]
      simp [show ¬ m = x.1 from fun h => e h.symm]
theorem look_of_get {f : F} {n : Nat} (hf : Fok f n) {i : Nat} {x : Nat × List Int} (h : f[i]? = some x) : look f x.1 = some x.2 := by
  have hn := hf.2
  clear hf
  induction f generalizing i with
  | nil => simp at h
  | cons y r ih =>
    rw [List.map_cons, List.nodup_cons] at hn
    unfold look
    cases i with
    | zero => simp at h; rw [h, if_pos rfl]
    | succ j =>
      simp at h
      have : y.1 ≠ x.1 := fun e => hn.1 (by rw [e]; exact List.mem_map_of_mem (List.mem_of_getElem? h))
      rw [if_neg this]
      exact ih h hn.2
theorem look_set (f : F) (k m : Nat) (b : List Int) : look (set f k b) m = if k = m then some b else look f m := by
  induction f with
  | nil => simp [set, look]
  | cons x r ih =>
    unfold set
    by_cases e : x.1 = k
    · rw [if_pos e]
      simp only [look]
      by_cases h : k = m
      · simp [h]
      · rw [if_neg h, if_neg h, if_neg (by omega)]
    · rw [if_neg e]
      simp only [look]
      rw [ih]
      by_cases h : x.1 = m
      · rw [if_pos h, if_neg (by omega), if_pos h]
      · rw [if_neg h, if_neg h]
theorem set_there {f : F} {n : Nat} (hf : Fok f n) {i k : Nat} {b0 : List Int} (h : f[i]? = some (k, b0)) (b : List Int) : set f k b = f.set i (k, b) := by
  have hn := hf.2
  clear hf
  induction f generalizing i with
  | nil => simp at h
  | cons y r ih =>
    rw [List.map_cons, List.nodup_cons] at hn
    unfold set
    cases i with
    | zero => simp at h; rw [h, if_pos rfl]; rfl
    | succ j =>
      simp at h
      have : y.1 ≠ k := fun e => hn.1 (by rw [e]; exact List.mem_map.2 ⟨_, List.mem_of_getElem? h, rfl⟩)
      rw [if_neg this, ih h hn.2]
      rfl
theorem set_none {f : F} {k : Nat} (h : look f k = none) (b : List Int) : set f k b = f ++ [(k, b)] := by
  induction f with
  | nil => rfl
  | cons x r ih =>
    unfold look at h
    split at h
    · cases h
    · rename_i e
      unfold set
      rw [if_neg e, ih h]
      rfl
theorem set_keys_there {f : F} {k : Nat} {b0 : List Int} (h : look f k = some b0) (b : List Int) : (set f k b).map (·.1) = f.map (·.1) := by
  induction f with
  | nil => cases h
  | cons x r ih =>
    unfold look at h
    unfold set
    split at h
    · rename_i e; rw [if_pos e]; simp [e]
    · rename_i e; rw [if_neg e]; simp [ih h]
theorem set_ok {f : F} {n k : Nat} {b : List Int} (hf : Fok f n) (hk : k < n) (hb : b.length = 64) (hB : Byt b) : Fok (set f k b) n := by
  refine ⟨fun x hx => ?_, ?_⟩
  · have : x = (k, b) ∨ x ∈ f := by
      clear hf
      induction f with
      | nil => simp [set] at hx; exact Or.inl hx
      | cons y r ih =>
        unfold set at hx
        split at hx
        · rcases List.mem_cons.1 hx with h | h
          · exact Or.inl h
          · exact Or.inr (List.mem_cons_of_mem _ h)
        · rcases List.mem_cons.1 hx with h | h
          · exact Or.inr (h ▸ List.mem_cons_self)
          · rcases ih h with h | h
            · exact Or.inl h
            · exact Or.inr (List.mem_cons_of_mem _ h)
    rcases this with rfl | h
    · exact ⟨hk, hb, hB⟩
    · exact hf.1 x h
  · cases h : look f k with
    | none =>
      rw [set_none h, List.map_append, List.nodup_append]
      refine ⟨hf.2, by simp, ?_⟩
      have := look_none.1 h
      intro x hx y hy e
      simp at hy
      exact this (by rw [← hy, ← e]; exact hx)
    | some b0 => rw [set_keys_there h]; exact hf.2
theorem set_size {f : F} (k : Nat) (b : List Int) : (set f k b).length ≤ f.length + 1 := by
  induction f with
  | nil => simp [set]
  | cons x r ih =>
    unfold set
    split
    · simp
    · simp; omega
theorem nodup_le : ∀ (n : Nat) (l : List Nat), l.Nodup → (∀ x ∈ l, x < n) → l.length ≤ n := by
  intro n
  induction n with
  | zero =>
    intro l _ h
    cases l with
    | nil => exact Nat.le_refl _
    | cons x r => exact absurd (h x List.mem_cons_self) (by omega)
  | succ n ih =>
    intro l hn h
    have h1 := ih (l.erase n) (hn.erase n) (fun x hx => by
      have hx' := (hn.mem_erase_iff).1 hx
      have := h x hx'.2
      have := hx'.1
      omega)
    have h2 := List.length_erase (a := n) (l := l)
    split at h2 <;> omega
theorem Fok.size {f : F} {n : Nat} (h : Fok f n) : f.length ≤ n := by
  have := nodup_le n (f.map (·.1)) h.2 (fun x hx => by obtain ⟨y, hy, rfl⟩ := List.mem_map.1 hx; exact (h.1 y hy).1)
  simpa using this

/-- What is laid, block by block. -/
theorem lay_get {n : Nat} : ∀ (f : List ((Nat × List Int) × Int)) (l : List Int), l.length = 64 * n → (∀ x ∈ f, x.1.1 < n ∧ x.1.2.length = 64) → (f.map (·.1.1)).Nodup →
    (layAll l f).length = 64 * n ∧ (∀ m, m ∉ f.map (·.1.1) → blk (layAll l f) m = blk l m) ∧ ∀ x ∈ f, blk (layAll l f) x.1.1 = x.1.2.take (many x.2) ++ (blk l x.1.1).drop (many x.2) := by
  intro f
  induction f with
  | nil => intro l hl _ _; exact ⟨hl, fun _ _ => rfl, fun x hx => by cases hx⟩
  | cons y r ih =>
    intro l hl hm hn
    rw [List.map_cons, List.nodup_cons] at hn
    have hy := hm y List.mem_cons_self
    have hml := many_le y.2
    have htl : (y.1.2.take (many y.2)).length = many y.2 := by simp; omega
    have hl' : (put l (64 * y.1.1) (y.1.2.take (many y.2))).length = 64 * n := by rw [put_len (by omega)]; exact hl
    obtain ⟨h1, h2, h3⟩ := ih _ hl' (fun x hx => hm x (List.mem_cons_of_mem _ hx)) hn.2
    refine ⟨h1, fun m hmm => ?_, fun x hx => ?_⟩
    · rw [List.map_cons, List.mem_cons, not_or] at hmm
      show blk (layAll (put l (64 * y.1.1) (y.1.2.take (many y.2))) r) m = _
      rw [h2 m hmm.2, blk_put_other hl hy.1 (by omega) hmm.1]
    · show blk (layAll (put l (64 * y.1.1) (y.1.2.take (many y.2))) r) x.1.1 = _
      rcases List.mem_cons.1 hx with rfl | hx
      · rw [h2 _ hn.1, blk_put_part hl hy.1 (by omega), htl]
      · rw [h3 x hx]
        have : x.1.1 ≠ y.1.1 := fun e => hn.1 (by rw [← e]; exact List.mem_map_of_mem hx)
        rw [blk_put_other hl hy.1 (by omega) this]
theorem lay_byt : ∀ (f : List ((Nat × List Int) × Int)) (l : List Int), Byt l → (∀ x ∈ f, Byt x.1.2) → Byt (layAll l f) := by
  intro f
  induction f with
  | nil => intro l h _; exact h
  | cons y r ih => intro l h hm; exact ih _ (put_byt h (byt_take (hm y List.mem_cons_self) _)) (fun x hx => hm x (List.mem_cons_of_mem _ hx))
theorem now_is {a : A} {n : Nat} (h : Ok a n) : now a = layAll a.last (a.fresh.map fun x => (x, 64)) := by
  unfold now layAll
  rw [List.foldl_map]
  have hm := h.fok.1
  generalize a.last = l
  generalize a.fresh = f at hm
  induction f generalizing l with
  | nil => rfl
  | cons y r ih =>
    simp only [List.foldl_cons]
    rw [List.take_of_length_le (by rw [(hm y List.mem_cons_self).2.1]; exact Nat.le_refl _)]
    exact ih _ (fun x hx => hm x (List.mem_cons_of_mem _ hx))
theorem now_get {a : A} {n : Nat} (h : Ok a n) : (now a).length = 64 * n ∧ Byt (now a) ∧ ∀ m, blk (now a) m = read a m := by
  obtain ⟨h1, h2, h3⟩ := lay_get (n := n) (a.fresh.map fun x => (x, 64)) a.last h.len (fun x hx => by obtain ⟨y, hy, rfl⟩ := List.mem_map.1 hx; exact ⟨(h.fok.1 y hy).1, (h.fok.1 y hy).2.1⟩) (by rw [List.map_map]; exact h.fok.2)
  rw [now_is h]
  refine ⟨h1, lay_byt _ _ h.byt (fun x hx => by obtain ⟨y, hy, rfl⟩ := List.mem_map.1 hx; exact (h.fok.1 y hy).2.2), fun m => ?_⟩
  unfold read
  cases hl : look a.fresh m with
  | none =>
    rw [h2 m (by rw [List.map_map]; exact look_none.1 hl)]
    rfl
  | some b =>
    have hb := look_mem hl
    have h4 := h3 ((m, b), 64) (List.mem_map.2 ⟨_, hb, rfl⟩)
    have hbl := (h.fok.1 _ hb).2.1
    have hlt := (h.fok.1 _ hb).1
    rw [h4, many_64, List.take_of_length_le (by rw [hbl]; exact Nat.le_refl _), List.drop_eq_nil_of_le (by rw [blk_len h.len hlt]; exact Nat.le_refl _), List.append_nil]
    rfl
theorem read_len {a : A} {n m : Nat} (h : Ok a n) (hm : m < n) : (read a m).length = 64 ∧ Byt (read a m) := by
  obtain ⟨h1, h2, h3⟩ := now_get h
  rw [← h3 m]
  exact ⟨blk_len h1 hm, blk_byt h2 m⟩
theorem write_ok {a : A} {n k : Nat} {b : List Int} (h : Ok a n) (hk : k < n) (hb : b.length = 64) (hB : Byt b) : Ok (write a k b) n := ⟨h.len, h.byt, h.small, set_ok h.fok hk hb hB⟩
theorem read_write {a : A} (k m : Nat) (b : List Int) : read (write a k b) m = if k = m then b else read a m := by
  unfold read write
  simp only [look_set]
  split <;> rfl
theorem now_write {a : A} {n k : Nat} {b : List Int} (h : Ok a n) (hk : k < n) (hb : b.length = 64) (hB : Byt b) : now (write a k b) = put (now a) (64 * k) b := by
  obtain ⟨h1, _, h3⟩ := now_get h
  obtain ⟨g1, _, g3⟩ := now_get (write_ok h hk hb hB)
  refine ext_blk g1 (by rw [put_len (by omega)]; exact h1) (fun m hm => ?_)
  rw [g3, read_write]
  by_cases e : k = m
  · subst e; rw [if_pos rfl, blk_put_same h1 hk hb]
  · rw [if_neg e, blk_put_other h1 hk (by omega) (fun h => e h.symm), h3]
theorem flush_ok {a : A} {n : Nat} (h : Ok a n) : Ok (flush a) n := by
  obtain ⟨h1, h2, _⟩ := now_get h
  exact ⟨h1, h2, h.small, ⟨(fun x hx => by cases hx), List.nodup_nil⟩⟩
theorem start_ok {a : A} {n : Nat} (h : Ok a n) : Ok (start a) n := ⟨h.len, h.byt, h.small, h.fok⟩
theorem zip_sub {α β : Type} (f : List α) (g : List β) : ∀ x ∈ f.zip g, x.1 ∈ f := fun x hx => (List.of_mem_zip hx).1
theorem zip_keys (f : F) (g : List Int) : (f.zip g).map (·.1.1) = (f.map (·.1)).take g.length := by
  have : (f.zip g).map (·.1.1) = ((f.zip g).map Prod.fst).map (·.1) := by rw [List.map_map]; rfl
  rw [this]
  have e : (f.zip g).map Prod.fst = f.take g.length := by
    clear this
    induction f generalizing g with
    | nil => simp
    | cons x r ih => cases g with
      | nil => simp
      | cons y s => simp [ih]
  rw [e, List.map_take]
theorem zip_ok {f : F} {n : Nat} (h : Fok f n) (g : List Int) : (∀ x ∈ f.zip g, x.1.1 < n ∧ x.1.2.length = 64) ∧ ((f.zip g).map (·.1.1)).Nodup := by
  refine ⟨fun x hx => ?_, ?_⟩
  · have := h.1 _ (zip_sub f g x hx)
    exact ⟨this.1, this.2.1⟩
  · rw [zip_keys]; exact h.2.sublist (List.take_sublist _ _)
theorem crash_ok {a : A} {n : Nat} (h : Ok a n) (fs : List Int) : Ok (crash a fs) n := by
  obtain ⟨z1, z2⟩ := zip_ok h.fok fs
  obtain ⟨h1, _, _⟩ := lay_get (a.fresh.zip fs) a.last h.len z1 z2
  exact ⟨h1, lay_byt _ _ h.byt (fun x hx => (h.fok.1 _ (zip_sub _ _ x hx)).2.2), h.small, ⟨(fun x hx => by cases hx), List.nodup_nil⟩⟩
theorem now_done {a : A} (h : a.fresh = []) : now a = a.last := by unfold now; rw [h]; rfl
theorem layAll_snoc (l : List Int) (f : List ((Nat × List Int) × Int)) (x : (Nat × List Int) × Int) : layAll l (f ++ [x]) = put (layAll l f) (64 * x.1.1) (x.1.2.take (many x.2)) := by
  unfold layAll; rw [List.foldl_append]; rfl
theorem zip_take_succ {f : F} {g : List Int} {i : Nat} {x : Nat × List Int} {z : Int} (hx : f[i]? = some x) (hz : g[i]? = some z) : (f.take (i + 1)).zip g = (f.take i).zip g ++ [(x, z)] := by
  induction f generalizing g i with
  | nil => simp at hx
  | cons y r ih =>
    cases g with
    | nil => simp at hz
    | cons u s =>
      cases i with
      | zero => simp at hx hz; simp [hx, hz]
      | succ j => simp at hx hz; simp [ih hx hz]
theorem zip_take_past {f : F} {g : List Int} {i : Nat} (h : g.length ≤ i) : (f.take (i + 1)).zip g = (f.take i).zip g := by
  induction f generalizing g i with
  | nil => simp
  | cons y r ih =>
    cases g with
    | nil => simp
    | cons u s =>
      cases i with
      | zero => simp at h
      | succ j => simp at h; simp [ih h]
end Go.Proofs.Ytfecobkpdmjaeaa.Dm
