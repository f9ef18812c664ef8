/-
  Rows of slices; what TransferEnds keeps from chunk to chunk; its mathematics.
-/
import Derived.Test.YtiogfkhmigbgpaaDoorXj
set_option linter.unusedVariables false
set_option linter.unusedSimpArgs false
namespace Tr
open Go.Proofs.YtiogfkhmigbgpaaDoor
/-- Where a chunk is told to be there the bytes are the image's. -/
def Ag (l1 : List Int) (c N : Nat) (hv : List Bool) (o : List Int) : Prop := ∀ k, k < N → hv.getD k false = true → ∀ j, k * c ≤ j → j < min ((k + 1) * c) l1.length → o.getD j 0 = l1.getD j 0
theorem ag_none (l1 : List Int) (c N : Nat) (o : List Int) : Ag l1 c N (List.replicate N false) o := by
  intro k hk h
  simp [hk] at h
theorem ag_set {l1 o : List Int} {c N : Nat} {hv : List Bool} (h : Ag l1 c N hv o) (k : Nat) (hk : k < o.length) : Ag l1 c N hv (o.set k (l1.getD k 0)) := by
  intro q hq hv' j h1 h2
  by_cases e : j = k
  · subst e
    simp [hk]
  · have := h q hq hv' j h1 h2
    rw [← this]
    simp [List.getElem?_set, Ne.symm e]
theorem ag_more {l1 o : List Int} {c N i : Nat} {hv : List Bool} (h : Ag l1 c N hv o) (hs : ∀ j, i * c ≤ j → j < min ((i + 1) * c) l1.length → o.getD j 0 = l1.getD j 0) : Ag l1 c N (hv.set i true) o := by
  intro k hk hv' j h1 h2
  by_cases e : k = i
  · subst e
    exact hs j h1 h2
  · refine h k hk ?_ j h1 h2
    rw [← hv']
    simp [List.getElem?_set, Ne.symm e]
theorem ag_all {l1 o : List Int} {c N : Nat} {m : Mf.Man} {hv : List Bool} (hb : Bt l1 c N m) (hl : hv.length = N) (hm : missing hv = 0) (ho : o.length = l1.length) (h : Ag l1 c N hv o) : o = l1 := by
  apply List.ext_getElem ho
  intro j h1 h2
  have hc := hb.pos
  have hcov := hb.cov
  have hk : j / c < N := by
    rw [Nat.div_lt_iff_lt_mul (by omega)]
    omega
  have h3 : j / c * c ≤ j := Nat.div_mul_le_self j c
  have h4 : j < (j / c + 1) * c := by
    have := Nat.lt_div_mul_add (a := j) (b := c) (by omega)
    rw [Nat.add_mul, Nat.one_mul]
    exact this
  have := h (j / c) hk (missing_zero hm (by omega)) j h3 (by omega)
  simpa [h1, h2] using this
theorem who_made {l1 : List Int} {c N : Nat} {m : Mf.Man} (hb : Bt l1 c N m) : Mf.who m l1 = 0 := by
  unfold Mf.who
  rw [if_neg hb.good, if_neg]
  rintro (h | h)
  · exact h hb.size.symm
  · exact h (by rw [hb.is]; rfl)
end Tr
namespace Go.Proofs.YtiogfkhmigbgpaaDoor
open Go.RowKit Go.Great
set_option linter.unusedVariables false
set_option linter.unusedSimpArgs false
set_option maxRecDepth 20000
def SE : Elem (Option Addr × Nat × Nat) where
  K := 1
  T := 22
  TS := 23
  enc := fun x => [.slice x.1 x.2.1 x.2.2]
  z := (none, 0, 0)
  ok := fun _ => True
  bytes := 24
  zero := .slice none 0 0
  hK := by omega
  len := fun x => rfl
  one := fun x v hv => by rw [List.mem_singleton.1 hv]; rfl
  und := Tryd.underlying23
  info := by kernel_rfl
  zs := rfl
  hb := by omega
  hKs := by omega
/-- A row of rows as a row of slices. -/
theorem bns_slices {w : World} {S : Nat → Prop} {a : Option Addr} {n : Nat} {l : List (List Bool)} (h : Bns w S a n l) : ∃ xs : List (Option Addr × Nat × Nat), SE.Row w S a n xs ∧ ∀ k, k < n → BE.Row w S (xs.getD k (none, 0, 0)).1 (xs.getD k (none, 0, 0)).2.1 (l.getD k []) := by
  obtain ⟨h1, h2⟩ := h
  rcases h2 with h | ⟨b, off, rfl, hs, hb, hc⟩
  · subst h
    obtain rfl : n = 0 := h1.symm
    exact ⟨[], Elem.Row.nil _ _ _, fun k hk => by omega⟩
  · have key : ∀ k, k < n → ∃ x : Option Addr × Nat × Nat, w.cell? ⟨b, off + k, none⟩ = some (.slice x.1 x.2.1 x.2.2) ∧ BE.Row w S x.1 x.2.1 (l.getD k []) := fun k hk => by
      obtain ⟨ad, m, c, h3, h4⟩ := hc k hk
      exact ⟨(ad, m, c), h3, h4⟩
    obtain ⟨f, hf⟩ := Go.Deep.choose_lt (α := Option Addr × Nat × Nat) (n := n) (p := fun k x => w.cell? ⟨b, off + k, none⟩ = some (.slice x.1 x.2.1 x.2.2) ∧ BE.Row w S x.1 x.2.1 (l.getD k [])) key
    have e : ∀ k, k < n → ((List.range n).map f).getD k (none, 0, 0) = f k := fun k hk => by simp [hk]
    refine ⟨(List.range n).map f, ⟨by simp, fun _ _ => trivial, Or.inr ⟨b, off, rfl, hs, hb, fun k hk j v hv => ?_⟩⟩, fun k hk => by rw [e k hk]; exact (hf k hk).2⟩
    have e2 : ((List.range n).map f).getD k SE.z = f k := e k hk
    rw [e2] at hv
    match j, hv with
    | 0, hv =>
      have hv' : v = .slice (f k).1 (f k).2.1 (f k).2.2 := (Option.some.inj hv).symm
      rw [show SE.K = 1 from rfl, Nat.mul_one, Nat.add_zero, hv']
      exact (hf k hk).1
    | j + 1, hv => cases hv
theorem slices_bns {w : World} {S : Nat → Prop} {a : Option Addr} {n : Nat} {l : List (List Bool)} {xs : List (Option Addr × Nat × Nat)} (h : SE.Row w S a n xs) (hl : l.length = n) (hr : ∀ k, k < n → BE.Row w S (xs.getD k (none, 0, 0)).1 (xs.getD k (none, 0, 0)).2.1 (l.getD k [])) : Bns w S a n l := by
  refine ⟨hl, ?_⟩
  by_cases h0 : n = 0
  · exact Or.inl (List.eq_nil_of_length_eq_zero (by omega))
  · obtain ⟨b, off, rfl, hs, hb, hc⟩ := h.rows (by omega)
    refine Or.inr ⟨b, off, rfl, hs, hb, fun k hk => ⟨_, _, (xs.getD k (none, 0, 0)).2.2, ?_, hr k hk⟩⟩
    have := hc k hk 0 _ rfl
    rw [show SE.K = 1 from rfl, Nat.mul_one, Nat.add_zero] at this
    exact this
/-- What is kept from chunk to chunk: all of it, but the bytes themselves, lies elsewhere than these. -/
structure EK (w0 w : World) (g go : Nat) (P : Array Value) (m : Mf.Man) (a1 : Option Addr) (n1 p1 : Nat) (l1 : List Int) (al : Option Addr) (nl : Nat) (ls : List (List Bool)) (aA : Option Addr) (N : Nat) (ah : Option Addr) (hv : List Bool) (o : List Int) : Prop where
  mb : MB w (· ≠ go) g P m
  ne : g ≠ go
  img : Txt w (· ≠ go) a1 n1 p1 l1
  ls : Bns w (· ≠ go) al nl ls
  al : BE.Row w (· ≠ go) aA N (List.replicate N true)
  hv : BE.Row w (· ≠ go) ah N hv
  out : Whole w go 5 (nums o).toArray
  byt : Byt o
  len : o.length = l1.length
  rt : Roots w
  two : 2 ≤ go
  lo : w0.heap.size ≤ go
  below : Below w0.heap.size w0 w
section
variable {w0 w w' : World} {g go : Nat} {P : Array Value} {m : Mf.Man} {a1 : Option Addr} {n1 p1 : Nat} {l1 : List Int} {al : Option Addr} {nl : Nat} {ls : List (List Bool)} {aA : Option Addr} {N : Nat} {ah : Option Addr} {hv : List Bool} {o : List Int}
theorem EK.on (h : EK w0 w g go P m a1 n1 p1 l1 al nl ls aA N ah hv o) (hb : Below w.heap.size w w') : EK w0 w' g go P m a1 n1 p1 l1 al nl ls aA N ah hv o :=
  ⟨⟨h.mb.1.below hb h.mb.1.lt, h.mb.2.keep hb.size (fun b hlt _ => hb.block b hlt)⟩, h.ne, h.img.keep hb.size (fun b hlt _ => hb.block b hlt), h.ls.keep hb.size (fun b hlt _ => hb.block b hlt), h.al.keep hb.size (fun b hlt _ => hb.block b hlt), h.hv.keep hb.size (fun b hlt _ => hb.block b hlt), h.out.below hb h.out.lt, h.byt, h.len, h.rt.below hb h.rt.two, h.two, h.lo, h.below.trans (hb.mono h.below.size)⟩
theorem EK.take {ah' : Option Addr} {hv' : List Bool} (h : EK w0 w g go P m a1 n1 p1 l1 al nl ls aA N ah hv o) (hr : BE.Row w (· ≠ go) ah' N hv') : EK w0 w g go P m a1 n1 p1 l1 al nl ls aA N ah' hv' o :=
  ⟨h.mb, h.ne, h.img, h.ls, h.al, hr, h.out, h.byt, h.len, h.rt, h.two, h.lo, h.below⟩
theorem EK.set (h : EK w0 w g go P m a1 n1 p1 l1 al nl ls aA N ah hv o) {k : Nat} {x : Int} (hk : k < o.length) (hx : 0 ≤ x ∧ x < 256) : EK w0 (w.setCell ⟨go, k, none⟩ (.int .u8 x)) g go P m a1 n1 p1 l1 al nl ls aA N ah hv (o.set k x) := by
  have hz : (w.setCell ⟨go, k, none⟩ (.int .u8 x)).heap.size = w.heap.size := by simp
  have hk' : ∀ b, b < w.heap.size → b ≠ go → (w.setCell ⟨go, k, none⟩ (.int .u8 x)).heap[b]? = w.heap[b]? := fun b _ hb => Below.heap_setCell w _ _ b hb
  refine ⟨⟨h.mb.1.far (p := ⟨go, k, none⟩) h.ne _, h.mb.2.keep (by omega) hk'⟩, h.ne, h.img.keep (by omega) hk', h.ls.keep (by omega) hk', h.al.keep (by omega) hk', h.hv.keep (by omega) hk', ?_, ?_, by rw [List.length_set]; exact h.len, h.rt.keep (fun b hb => Below.heap_setCell w _ _ b (by show b ≠ go; have := h.two; omega)), h.two, h.lo, h.below.setCell (p := ⟨go, k, none⟩) h.lo _⟩
  · have := h.out.set k (.int .u8 x)
    have e : (nums o).toArray.setIfInBounds k (.int .u8 x) = (nums (o.set k x)).toArray := by simp [nums, List.map_set]
    rw [e] at this
    exact this
  · intro y hy
    rcases List.mem_or_eq_of_mem_set hy with h1 | rfl
    · exact h.byt y h1
    · exact hx
end
end Go.Proofs.YtiogfkhmigbgpaaDoor
