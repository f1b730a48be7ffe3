/- A range over a function, whose iterator may give up by a panic and may keep state of its own in one block of cells. Of no program. -/
import Derived.RangeFuncNested
import Derived.RangeFuncBound
namespace Go.Proofs.Ytdjmhagclcfnfaa
open Go.RowKit

variable {F : Fence} {n : Nat} {P : Program}

/-- What turns between two rounds by the iterator's doing: its own block of cells bi; a block that is no cells and lies from B on. -/
def ItRow (bi : Option Nat) (B : Nat) (W : World) (row : Option Nat) : Prop :=
  ∀ r, row = some r → some r = bi ∨ (B ≤ r ∧ ∃ o : Obj, W.heap[r]? = some o ∧ o.isCells = false)
/-- An invariant that abides this. -/
def OwnIt {β : Type} (bi : Option Nat) (B : Nat) (I : β → World → Prop) : Prop :=
  ∀ s W W' row, I s W → W.grownBy W' row → ItRow bi B W row → I s W'

theorem OwnIt.alloc {β : Type} {bi : Option Nat} {B : Nat} {I : β → World → Prop} (h : OwnIt bi B I) {s : β} {W : World} (o : Obj) (hs : I s W) : I s (W.alloc o) :=
  h s W _ none hs (World.grownBy_alloc W o none) (fun _ e => by cases e)
theorem OwnIt.putObj {β : Type} {bi : Option Nat} {B : Nat} {I : β → World → Prop} (h : OwnIt bi B I) {s : β} {W : World} {l : Nat} {o : Obj} (o' : Obj) (hs : I s W) (hB : B ≤ l) (hl : W.heap[l]? = some o) (ho : o.isCells = false) : I s (W.putObj l o') :=
  h s W _ (some l) hs (grownBy_putObj' W l o') (fun r e => by cases e; exact .inr ⟨hB, o, hl, ho⟩)
theorem OwnIt.and {β : Type} {bi : Option Nat} {B : Nat} {I I' : β → World → Prop} (h : OwnIt bi B I) (h' : OwnIt bi B I') : OwnIt bi B (fun s W => I s W ∧ I' s W) :=
  fun s W W' row hs hg hr => ⟨h s W W' row hs.1 hg hr, h' s W W' row hs.2 hg hr⟩
theorem OwnIt.pure {β : Type} (bi : Option Nat) (B : Nat) (p : β → Prop) : OwnIt bi B (fun s (_ : World) => p s) := fun _ _ _ _ hs _ _ => hs
theorem OwnIt.mono {β : Type} {bi : Option Nat} {B B' : Nat} {I : β → World → Prop} (h : OwnIt bi B I) (hB : B ≤ B') : OwnIt bi B' I :=
  fun s W W' row hs hg hr => h s W W' row hs hg (fun r e => (hr r e).imp id (fun ⟨h1, h2⟩ => ⟨Nat.le_trans hB h1, h2⟩))

/-- The blocks of K lie as they lay. -/
def KeptOn (K : Nat → Prop) (W W' : World) : Prop := ∀ k, K k → W'.heap[k]? = W.heap[k]?
theorem KeptOn.refl (K : Nat → Prop) (W : World) : KeptOn K W W := fun _ _ => rfl
theorem KeptOn.trans {K : Nat → Prop} {A B C : World} (h : KeptOn K A B) (k : KeptOn K B C) : KeptOn K A C := fun i hi => (k i hi).trans (h i hi)
theorem KeptOn.cell {K : Nat → Prop} {A B : World} (h : KeptOn K A B) {b o : Nat} (hb : K b) : B.cell? ⟨b, o, none⟩ = A.cell? ⟨b, o, none⟩ := World.cell?_of_block (h b hb)
theorem KeptOn.alloc {K : Nat → Prop} {A B : World} (h : KeptOn K A B) (hK : ∀ k, K k → k < B.heap.size) (o : Obj) : KeptOn K A (B.alloc o) := fun k hk => (Below.heap_alloc B o k (hK k hk)).trans (h k hk)
theorem KeptOn.putObj {K : Nat → Prop} {A B : World} (h : KeptOn K A B) {l : Nat} (hK : ¬ K l) (o : Obj) : KeptOn K A (B.putObj l o) := fun k hk => (World.putObj_heap_other (fun e : k = l => hK (by rw [← e]; exact hk))).trans (h k hk)
theorem KeptOn.of_grownBy {K : Nat → Prop} {A B : World} {row : Option Nat} (h : A.grownBy B row) (hK : ∀ k, K k → k < A.heap.size ∧ some k ≠ row) : KeptOn K A B := fun k hk => h.block k (hK k hk).1 (hK k hk).2
theorem KeptOn.of_below {K : Nat → Prop} {A B : World} {N : Nat} (h : Below N A B) (hK : ∀ k, K k → k < N) : KeptOn K A B := fun k hk => h.block k (hK k hk)

theorem KeptOn.lt {K : Nat → Prop} {A B : World} (h : KeptOn K A B) (hK : ∀ k, K k → k < A.heap.size) : ∀ k, K k → k < B.heap.size := fun k hk => by
  have e := h k hk
  rw [Array.getElem?_eq_getElem (hK k hk)] at e
  exact (Array.getElem?_eq_some_iff.1 e).1

/-- THE ITERATOR's CONTRACT. G pre x: behind pre it may give x. Fin: all have come. Stop: a round has said 'no more'. Pan: it has given up. -/
def SeqC {α : Type} (F : Fence) (n : Nat) (P : Program) (g : Nat) (lb : Array Value) (encs : α → Array Value) (K : Nat → Prop) (bi : Option Nat) (G : List α → α → Prop) (Fin Stop : List α → Prop) (Pan : List PanicEntry → List α → Prop) (w : World) : Prop :=
  ∀ (l : Nat) (J Jx : List α → World → Prop) (W : World), Below w.heap.size w W → OwnIt bi W.heap.size J → OwnIt bi W.heap.size Jx →
    (∀ pre x W1, J pre W1 → G pre x → YieldAt F (n - 1) P l (encs x) W1 fun e W' =>
      (e = .returned (.bool true) ∧ J (pre ++ [x]) W' ∧ KeptOn K W1 W') ∨ (e = .returned (.bool false) ∧ Jx (pre ++ [x]) W')) →
    J [] W →
    CallsIn F n P g (#[.func (.yield l) #[] #[]] ++ lb) W fun e W' =>
      (∃ v, e = .returned v ∧ ((∃ xs, Fin xs ∧ J xs W') ∨ (∃ pre, Stop pre ∧ Jx pre W'))) ∨ (∃ ch xs, e = .panicked ch ∧ Pan ch xs ∧ J xs W')

/-- How a round's body may be left. -/
def roundEnd {α : Type} (B : Nat) (K : Nat → Prop) (I : List α → World → Prop) (Ix : Code → List α → World → Prop) (xs : List α) (W : World) : Exit → Act → World → Prop
  | .normal, _, W' => KeepsFrom B W W' ∧ KeptOn K W W' ∧ I xs W'
  | .ret, _, W' => KeepsFrom B W W' ∧ Ix .ret xs W'
  | .exit id, _, W' => KeepsFrom B W W' ∧ Ix (.exit id) xs W'
  | .goto t, _, W' => KeepsFrom B W W' ∧ Ix (.goto t) xs W'
  | _, _, _ => False

/-- A ROUND, out of the walks of its two parts. -/
theorem round_law {α : Type} {l D B : Nat} {KK : Nat → Prop} {m : Nat} {r : Loop} {args : Array Value} {W : World} {bi : Option Nat} {I : List α → World → Prop} {Ix : Code → List α → World → Prop} {Ax : Act → World → Prop} {pre xs : List α}
    (hl : W.heap[l]? = some (.loop r)) (hD : W.heap[D]? = some (.deferred (some []))) (hst : r.state = .ready) (hps : args.size = r.params.size) (hF : F.fn r.fn) (hBl : B ≤ l) (hBD : B ≤ D) (hKK : ∀ k, KK k → k < B) (hDl : D ≠ l)
    (hI : OwnIt bi B I) (hIx : ∀ c, OwnIt bi B (Ix c)) (hAx : ∀ a', OwnIt bi B (fun (_ : Unit) W => Ax a' W))
    (hassign : ∀ K : Act → World → Prop, (∀ a' W', KeepsFrom B W W' → KeptOn KK W W' → I pre W' → Ax a' W' → K a' W') →
      r.assign.wpIn (F.inRound l) m P (Exit.then K (fun _ _ _ => False)) { tmps := (r.params.zip args).foldl (fun t (p, v) => t.setIfInBounds p v) r.tmps, defers := [] } W)
    (hbody : ∀ a' W', I pre W' → Ax a' W' → r.body.wpIn (F.inRound l) m P (roundEnd B KK I Ix xs W') a' W') :
    YieldAt F m P l args W fun e W' =>
      (e = .returned (.bool true) ∧ (I xs W' ∧ W'.heap[l]? = some (.loop { r with state := .ready, pending := none }) ∧ W'.heap[D]? = some (.deferred (some []))) ∧ KeptOn KK W W') ∨
      (e = .returned (.bool false) ∧ ∃ c, Ix c xs W' ∧ W'.heap[l]? = some (.loop { r with state := .done, pending := some c }) ∧ W'.heap[D]? = some (.deferred (some []))) := by
  refine ⟨r.fn, _, r.assign, r.body, run_yield hl hps, roundIn_of_wpIn hF (hassign _ ?_)⟩
  intro a' W1 hk1 hb1 hi1 hax
  have hl1 := hk1.same _ _ hBl hl rfl
  have hD1 := hk1.same _ _ hBD hD rfl
  refine ⟨_, run_beginRound hl1 hst, ?_⟩
  have hlt : l < W1.heap.size := (Array.getElem?_eq_some_iff.1 hl1).1
  generalize hW2 : W1.putObj l (.loop { r with state := .busy }) = W2
  have hl2 : W2.heap[l]? = some (.loop { r with state := .busy }) := by rw [← hW2]; exact World.putObj_heap_same hlt
  have hD2 : W2.heap[D]? = some (.deferred (some [])) := by rw [← hW2]; exact (World.putObj_heap_other hDl).trans hD1
  have hi2 : I pre W2 := by rw [← hW2]; exact hI.putObj _ hi1 hBl hl1 rfl
  have hax2 : Ax a' W2 := by rw [← hW2]; exact (hAx a').putObj (s := ()) _ hax hBl hl1 rfl
  have hnl : ¬ KK l := fun h => by have := hKK l h; omega
  have hb2 : KeptOn KK W W2 := by
    rw [← hW2]
    exact hb1.putObj hnl _
  clear hW2
  refine wpIn_mono (hbody a' W2 hi2 hax2) ?_
  have fin : ∀ (jump : Option Code) (W3 : World), KeepsFrom B W2 W3 →
      (Instr.endRound l jump).run P W3 = .ok (.bool jump.isNone) (W3.putObj l (.loop { r with state := if jump.isNone then .ready else .done, pending := jump })) ∧
      W3.heap[l]? = some (.loop { r with state := .busy }) ∧
      (W3.putObj l (.loop { r with state := if jump.isNone then .ready else .done, pending := jump })).heap[l]? = some (.loop { r with state := if jump.isNone then .ready else .done, pending := jump }) ∧
      (W3.putObj l (.loop { r with state := if jump.isNone then .ready else .done, pending := jump })).heap[D]? = some (.deferred (some [])) := fun jump W3 hk3 => by
    have hl3 := hk3.same _ _ hBl hl2 rfl
    have hrun := run_endRound (P := P) jump hl3
    exact ⟨hrun, hl3, World.putObj_heap_same (Array.getElem?_eq_some_iff.1 hl3).1, (World.putObj_heap_other hDl).trans (hk3.same _ _ hBD hD2 rfl)⟩
  rintro e a3 W3 hp
  cases e with
  | normal =>
    obtain ⟨hk3, hb3, hi3⟩ := hp
    obtain ⟨hr, hl3, hl4, hD4⟩ := fin none W3 hk3
    refine ⟨_, _, hr, .inl ⟨rfl, ⟨hI.putObj _ hi3 hBl hl3 rfl, hl4, hD4⟩, ?_⟩⟩
    exact (hb2.trans hb3).putObj hnl _
  | ret =>
    obtain ⟨hk3, hi3⟩ := hp
    obtain ⟨hr, hl3, hl4, hD4⟩ := fin (some .ret) W3 hk3
    exact ⟨_, _, hr, .inr ⟨rfl, .ret, (hIx _).putObj _ hi3 hBl hl3 rfl, hl4, hD4⟩⟩
  | exit id =>
    obtain ⟨hk3, hi3⟩ := hp
    obtain ⟨hr, hl3, hl4, hD4⟩ := fin (some (.exit id)) W3 hk3
    exact ⟨_, _, hr, .inr ⟨rfl, .exit id, (hIx _).putObj _ hi3 hBl hl3 rfl, hl4, hD4⟩⟩
  | goto t =>
    obtain ⟨hk3, hi3⟩ := hp
    obtain ⟨hr, hl3, hl4, hD4⟩ := fin (some (.goto t)) W3 hk3
    exact ⟨_, _, hr, .inr ⟨rfl, .goto t, (hIx _).putObj _ hi3 hBl hl3 rfl, hl4, hD4⟩⟩
  | panic ch => exact hp.elim
  | outgrown => exact hp.elim

/-- The activation behind the loop: the mark for what the rounds have deferred. -/
abbrev marked (a : Act) (D : Nat) : Act := { a with defers := { target := .collected D, args := #[] } :: a.defers }

/-- **THE STATEMENT**, over an iterator with its contract. -/
theorem range_law {α : Type} {g : Operand} {ps : Array Tmp} {assign body : Code} {Q : Exit → Act → World → Prop} {a : Act} {w : World}
    (hro : F.round = none) (h1 : 1 ≤ n) {gf : Nat} {lb : Array Value} (hg : a.eval g = .func (.func gf) #[] lb) (hFg : F.fn gf) (eg : ∀ args w, (callFunc gf args).run P w = .ok (.enter gf args) w)
    {encs : α → Array Value} {KK : Nat → Prop} {bi : Option Nat} {G : List α → α → Prop} {Fin Stop : List α → Prop} {Pan : List PanicEntry → List α → Prop} {w0 : World} (hseq : SeqC F (n - 1) P gf lb encs KK bi G Fin Stop Pan w0)
    (hb0 : Below w0.heap.size w0 w) (hKK : ∀ k, KK k → k < w.heap.size) (hbi : ∀ b, bi = some b → b < w.heap.size) (hps : ∀ x, (encs x).size = ps.size)
    (I : List α → World → Prop) (Ix : Code → List α → World → Prop) (hI : OwnIt bi w.heap.size I) (hIx : ∀ c, OwnIt bi w.heap.size (Ix c)) (h0 : I [] w)
    (Ax : α → Act → World → Prop) (hAx : ∀ x a', OwnIt bi w.heap.size (fun (_ : Unit) W => Ax x a' W))
    (hassign : ∀ (l : Nat) (pre : List α) (x : α) (W : World) (K : Act → World → Prop), I pre W → (∀ a' W', KeepsFrom w.heap.size W W' → KeptOn KK W W' → I pre W' → Ax x a' W' → K a' W') →
      assign.wpIn (F.inRound l) (n - 1 - 1) P (Exit.then K (fun _ _ _ => False)) { tmps := (ps.zip (encs x)).foldl (fun t (p, v) => t.setIfInBounds p v) a.tmps, defers := [] } W)
    (hbody : ∀ (l : Nat) (pre : List α) (x : α) (a' : Act) (W : World), I pre W → Ax x a' W → G pre x → body.wpIn (F.inRound l) (n - 1 - 1) P (roundEnd w.heap.size KK I Ix (pre ++ [x]) W) a' W)
    (hdone : ∀ (D : Nat) (xs : List α) (W : World), w.heap.size ≤ D → Fin xs → I xs W → W.heap[D]? = some (.deferred (some [])) → Q .normal (marked a D) W)
    (hstop : ∀ (D : Nat) (c : Code) (pre : List α) (W : World), w.heap.size ≤ D → Stop pre → Ix c pre W → W.heap[D]? = some (.deferred (some [])) → c.wpIn F n P Q (marked a D) W)
    (hpanic : ∀ (D : Nat) (ch : List PanicEntry) (xs : List α) (W : World), w.heap.size ≤ D → Pan ch xs → I xs W → W.heap[D]? = some (.deferred (some [])) → Q (.panic ch) (marked a D) W) :
    (Code.rangeFunc g ps assign body).wpIn F n P Q a w := by
  refine wpIn_rangeFunc ?_
  intro fn hfn
  rw [hro]
  obtain ⟨L, hL⟩ : ∃ L : Loop, L = { state := .ready, pending := none, fn, tmps := a.tmps, params := ps, assign, body, defers := w.heap.size } := ⟨_, rfl⟩
  obtain ⟨W1, hW1⟩ : ∃ W1, (w.alloc (.deferred (some []))).alloc (.loop L) = W1 := ⟨_, rfl⟩
  have hs1 : W1.heap.size = w.heap.size + 2 := by rw [← hW1]; simp
  have hL1 : W1.heap[w.heap.size + 1]? = some (.loop L) := by
    rw [← hW1]; have := World.alloc_heap_new (w.alloc (.deferred (some []))) (.loop L); rwa [World.size_alloc] at this
  have hK1 : W1.heap[w.heap.size]? = some (.deferred (some [])) := by
    rw [← hW1]; exact (Below.heap_alloc _ _ _ (by simp)).trans (World.alloc_heap_new w _)
  have hI1 : I [] W1 := by rw [← hW1]; exact hI.alloc _ (hI.alloc _ h0)
  have hb1 : Below w0.heap.size w0 W1 := by
    rw [← hW1]; exact hb0.trans ((((Below.refl _ w).alloc (Nat.le_refl _) _).alloc (by simp) _).mono hb0.size)
  refine ⟨w.heap.size + 1, [{ target := .collected w.heap.size, args := #[] }], W1, { target := .fn (.func gf) lb, args := #[.func (.yield (w.heap.size + 1)) #[] #[]] }, W1, gf,
    #[.func (.yield (w.heap.size + 1)) #[] #[]] ++ lb, W1, ?_, ?_, ?_, ?_, fun _ => h1, ?_⟩
  · rw [← hW1, hL]; exact run_enterLoop_outer _ _ _ _ _
  · simp only [resolve, hg]
    simp [go_sem]
  · intro f' hf'; simp [Target.leads] at hf'; subst hf'; exact hFg
  · simp [invoke, go_sem, eg]
  · have hkeep : ∀ {A A' : World} {row : Option Nat} {k : Nat} {o : Obj}, A.grownBy A' row → ItRow bi W1.heap.size A row → A.heap[k]? = some o → o.isCells = false → k < w.heap.size + 2 → w.heap.size ≤ k → A'.heap[k]? = some o := by
      intro A A' row k o hg' hr hk ho hk2 hk3
      refine (hg'.block k (Array.getElem?_eq_some_iff.1 hk).1 (fun e => ?_)).trans hk
      rcases hr k e.symm with e2 | ⟨h2, _⟩
      · have := hbi k e2.symm; omega
      · omega
    have hlow : ∀ {A : World} {row : Option Nat}, ItRow bi W1.heap.size A row → ItRow bi w.heap.size A row :=
      fun hr r e => (hr r e).imp id (fun ⟨h2, h3⟩ => ⟨by omega, h3⟩)
    refine (hseq (w.heap.size + 1)
      (fun pre W => I pre W ∧ W.heap[w.heap.size + 1]? = some (.loop L) ∧ W.heap[w.heap.size]? = some (.deferred (some [])))
      (fun pre W => ∃ c, Ix c pre W ∧ W.heap[w.heap.size + 1]? = some (.loop { L with state := .done, pending := some c }) ∧ W.heap[w.heap.size]? = some (.deferred (some [])))
      W1 hb1
      (fun s A A' row hs hg' hr => ⟨hI s A A' row hs.1 hg' (hlow hr), hkeep hg' hr hs.2.1 rfl (by omega) (by omega), hkeep hg' hr hs.2.2 rfl (by omega) (by omega)⟩)
      (fun s A A' row hs hg' hr => by
        obtain ⟨c, hc, hl, hk⟩ := hs
        exact ⟨c, hIx c s A A' row hc hg' (hlow hr), hkeep hg' hr hl rfl (by omega) (by omega), hkeep hg' hr hk rfl (by omega) (by omega)⟩)
      ?_ ⟨hI1, hL1, hK1⟩).mono ?_
    · rintro pre x W ⟨hi, hl, hk⟩ hG
      have hr := round_law (F := F) (P := P) (m := n - 1 - 1) (args := encs x) (B := w.heap.size) (KK := KK) (Ax := Ax x) (pre := pre) (xs := pre ++ [x]) (I := I) (Ix := Ix) (bi := bi)
        hl hk (by rw [hL]) (by rw [hL]; exact hps x) (by rw [hL]; exact hfn) (by omega) (by omega) hKK (by omega) hI hIx (hAx x)
        (by rw [hL]; exact fun K hK => hassign _ pre x W K hi hK) (by rw [hL]; exact fun a' W' h2 h3 => hbody _ pre x a' W' h2 h3 hG)
      rw [show ({ L with state := .ready, pending := none } : Loop) = L by rw [hL]] at hr
      exact hr
    · rintro e W2 (⟨v, rfl, (⟨xs, hS, hi, hl, hk⟩ | ⟨pre, hSp, c, hi, hl, hk⟩)⟩ | ⟨ch, xs, rfl, hP, hi, hl, hk⟩)
      · exact ⟨none, _, by have := run_endLoop (P := P) hl (by rw [hL]; simp); rw [hL] at this; exact this, hdone _ xs _ (Nat.le_refl _) hS (hI.putObj _ hi (by omega) hl rfl) ((World.putObj_heap_other (by omega)).trans hk)⟩
      · exact ⟨some c, _, by have := run_endLoop (P := P) hl (by simp); exact this, hstop _ c pre _ (Nat.le_refl _) hSp ((hIx c).putObj _ hi (by omega) hl rfl) ((World.putObj_heap_other (by omega)).trans hk)⟩
      · exact hpanic _ ch xs W2 (Nat.le_refl _) hP hi hk
end Go.Proofs.Ytdjmhagclcfnfaa
