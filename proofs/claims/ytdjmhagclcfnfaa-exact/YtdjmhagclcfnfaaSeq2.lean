/- As Seq, for an iterator that lays cells of its own from its call on: a window of c blocks. Of no program. -/
import Derived.Test.YtdjmhagclcfnfaaSeq
namespace Go.Proofs.Ytdjmhagclcfnfaa
open Go.RowKit

variable {F : Fence} {n : Nat} {P : Program}

/-- What turns between two rounds by the iterator's doing: its own block bi; the window from lo to hi; a block that is no cells and lies from B on. -/
def ItRowW (bi : Option Nat) (lo hi B : Nat) (W : World) (row : Option Nat) : Prop :=
  ∀ r, row = some r → some r = bi ∨ (lo ≤ r ∧ r < hi) ∨ (B ≤ r ∧ ∃ o : Obj, W.heap[r]? = some o ∧ o.isCells = false)
/-- An invariant that abides this. -/
def OwnItW {β : Type} (bi : Option Nat) (lo hi B : Nat) (I : β → World → Prop) : Prop :=
  ∀ s W W' row, I s W → W.grownBy W' row → ItRowW bi lo hi B W row → I s W'

theorem OwnItW.alloc {β : Type} {bi : Option Nat} {lo hi B : Nat} {I : β → World → Prop} (h : OwnItW bi lo hi B I) {s : β} {W : World} (o : Obj) (hs : I s W) : I s (W.alloc o) :=
  h s W _ none hs (World.grownBy_alloc W o none) (fun _ e => by cases e)
theorem OwnItW.putObj {β : Type} {bi : Option Nat} {lo hi B : Nat} {I : β → World → Prop} (h : OwnItW bi lo hi B I) {s : β} {W : World} {l : Nat} {o : Obj} (o' : Obj) (hs : I s W) (hB : B ≤ l) (hl : W.heap[l]? = some o) (ho : o.isCells = false) : I s (W.putObj l o') :=
  h s W _ (some l) hs (grownBy_putObj' W l o') (fun r e => by cases e; exact .inr (.inr ⟨hB, o, hl, ho⟩))
theorem OwnItW.and {β : Type} {bi : Option Nat} {lo hi B : Nat} {I I' : β → World → Prop} (h : OwnItW bi lo hi B I) (h' : OwnItW bi lo hi B I') : OwnItW bi lo hi B (fun s W => I s W ∧ I' s W) :=
  fun s W W' row hs hg hr => ⟨h s W W' row hs.1 hg hr, h' s W W' row hs.2 hg hr⟩
theorem OwnItW.pure {β : Type} (bi : Option Nat) (lo hi B : Nat) (p : β → Prop) : OwnItW bi lo hi B (fun s (_ : World) => p s) := fun _ _ _ _ hs _ _ => hs
theorem OwnItW.some {β γ : Type} {bi : Option Nat} {lo hi B : Nat} (I : γ → β → World → Prop) (h : ∀ y, OwnItW bi lo hi B (I y)) : OwnItW bi lo hi B (fun s W => ∃ y, I y s W) :=
  fun s W W' row ⟨y, hs⟩ hg hr => ⟨y, h y s W W' row hs hg hr⟩
/-- Fewer changes are borne too. -/
theorem OwnItW.mono {β : Type} {bi : Option Nat} {lo hi B lo' hi' B' : Nat} {I : β → World → Prop} (h : OwnItW bi lo hi B I) (h1 : lo ≤ lo') (h2 : hi' ≤ hi) (h3 : B ≤ B') : OwnItW bi lo' hi' B' I :=
  fun s W W' row hs hg hr => h s W W' row hs hg (fun r e => (hr r e).imp id (Or.imp (fun ⟨a, b⟩ => ⟨by omega, by omega⟩) (fun ⟨a, b⟩ => ⟨by omega, b⟩)))

/-- THE ITERATOR's CONTRACT, with its window: c blocks from its call on. -/
def SeqW {α : Type} (F : Fence) (n : Nat) (P : Program) (g : Nat) (lb : Array Value) (encs : α → Array Value) (K : Nat → Prop) (bi : Option Nat) (c : Nat) (G : List α → α → Prop) (Fin Stop : List α → Prop) (Pan : List PanicEntry → List α → Prop) (w : World) : Prop :=
  ∀ (l : Nat) (J Jx : List α → World → Prop) (W : World), Below w.heap.size w W → OwnItW bi W.heap.size (W.heap.size + c) W.heap.size J → OwnItW bi W.heap.size (W.heap.size + c) W.heap.size Jx →
    (∀ pre x W1, W.heap.size + c ≤ W1.heap.size → J pre W1 → G pre x → YieldAt F (n - 1) P l (encs x) W1 fun e W' =>
      (e = .returned (.bool true) ∧ J (pre ++ [x]) W' ∧ KeepsFrom W.heap.size W1 W' ∧ KeptOn (fun k => K k ∨ (W.heap.size ≤ k ∧ k < W.heap.size + c)) W1 W') ∨ (e = .returned (.bool false) ∧ Jx (pre ++ [x]) W' ∧ KeepsFrom W.heap.size W1 W')) →
    J [] W →
    CallsIn F n P g (#[.func (.yield l) #[] #[]] ++ lb) W fun e W' =>
      (∃ v, e = .returned v ∧ ((∃ xs, Fin xs ∧ J xs W') ∨ (∃ pre, Stop pre ∧ Jx pre W'))) ∨ (∃ ch xs, e = .panicked ch ∧ Pan ch xs ∧ J xs W')

theorem KeptOn.imp {K K' : Nat → Prop} {A B : World} (h : KeptOn K A B) (hK : ∀ k, K' k → K k) : KeptOn K' A B := fun k hk => h k (hK k hk)

/-- An iterator that lays none. -/
theorem SeqC.wide {α : Type} {g : Nat} {lb : Array Value} {encs : α → Array Value} {K : Nat → Prop} {bi : Option Nat} {G : List α → α → Prop} {Fin Stop : List α → Prop} {Pan : List PanicEntry → List α → Prop} {w : World}
    (h : SeqC F n P g lb encs K bi G Fin Stop Pan w) : SeqW F n P g lb encs K bi 0 G Fin Stop Pan w := by
  intro l J Jx W hW hJ hJx hY h0
  have cv : ∀ {I : List α → World → Prop}, OwnItW bi W.heap.size (W.heap.size + 0) W.heap.size I → OwnIt bi W.heap.size (fun s A => I s A ∧ W.heap.size ≤ A.heap.size) := by
    rintro I hI s A A' row ⟨hs, hz⟩ hg hr
    exact ⟨hI s A A' row hs hg (fun r e => (hr r e).imp id .inr), Nat.le_trans hz hg.size⟩
  refine (h l (fun s A => J s A ∧ W.heap.size ≤ A.heap.size) (fun s A => Jx s A ∧ True) W hW (cv hJ) ?_ ?_ ⟨h0, Nat.le_refl _⟩).mono ?_
  · rintro s A A' row ⟨hs, _⟩ hg hr
    exact ⟨hJx s A A' row hs hg (fun r e => (hr r e).imp id .inr), trivial⟩
  · rintro pre x W1 ⟨hj, hz⟩ hG
    obtain ⟨fn, tmps, assign, body, hy, hR⟩ := hY pre x W1 (by omega) hj hG
    refine ⟨fn, tmps, assign, body, hy, hR.mono ?_⟩
    rintro e W' (⟨rfl, hj', hz', hk⟩ | ⟨rfl, hj', _⟩)
    · exact .inl ⟨rfl, ⟨hj', Nat.le_trans hz hz'.size⟩, hk.imp (fun k hk => .inl hk)⟩
    · exact .inr ⟨rfl, hj', trivial⟩
  · rintro e W' (⟨v, rfl, (⟨xs, hF, hj⟩ | ⟨pre, hS, hj⟩)⟩ | ⟨ch, xs, rfl, hP, hj⟩)
    · exact .inl ⟨v, rfl, .inl ⟨xs, hF, hj.1⟩⟩
    · exact .inl ⟨v, rfl, .inr ⟨pre, hS, hj.1⟩⟩
    · exact .inr ⟨ch, xs, rfl, hP, hj.1⟩

theorem keeps_up {B B' : Nat} {W W' : World} (h : KeepsFrom B W W') (hB : B ≤ B') : KeepsFrom B' W W' := ⟨h.size, fun k o hk => h.same k o (Nat.le_trans hB hk)⟩
theorem keeps_put (W : World) (l : Nat) (o : Obj) : KeepsFrom (l + 1) W (W.putObj l o) := ⟨by simp, fun k o' hk h _ => (World.putObj_heap_other (by omega)).trans h⟩

/-- A ROUND, out of the walks of its two parts. -/
theorem round_lawW {α : Type} {l D B lo hi N : Nat} {KK : Nat → Prop} {m : Nat} {r : Loop} {args : Array Value} {W : World} {bi : Option Nat} {I : List α → World → Prop} {Ix : Code → List α → World → Prop} {Ax : Act → World → Prop} {pre xs : List α}
    (hl : W.heap[l]? = some (.loop r)) (hD : W.heap[D]? = some (.deferred (some []))) (hst : r.state = .ready) (hps : args.size = r.params.size) (hF : F.fn r.fn) (hBl : B ≤ l) (hBD : B ≤ D) (hnl : ¬ KK l) (hN : N ≤ W.heap.size) (hDl : D ≠ l)
    (hI : OwnItW bi lo hi B I) (hIx : ∀ c, OwnItW bi lo hi B (Ix c)) (hAx : ∀ a', OwnItW bi lo hi B (fun (_ : Unit) W => Ax a' W))
    (hassign : ∀ K : Act → World → Prop, (∀ a' W', KeepsFrom B W W' → KeptOn KK W W' → I pre W' → Ax a' W' → K a' W') →
      r.assign.wpIn (F.inRound l) m P (Exit.then K (fun _ _ _ => False)) { tmps := (r.params.zip args).foldl (fun t (p, v) => t.setIfInBounds p v) r.tmps, defers := [] } W)
    (hbody : ∀ a' W', N ≤ W'.heap.size → I pre W' → Ax a' W' → r.body.wpIn (F.inRound l) m P (roundEnd B KK I Ix xs W') a' W') :
    YieldAt F m P l args W fun e W' =>
      (e = .returned (.bool true) ∧ (I xs W' ∧ W'.heap[l]? = some (.loop { r with state := .ready, pending := none }) ∧ W'.heap[D]? = some (.deferred (some []))) ∧ KeepsFrom (l + 1) W W' ∧ KeptOn KK W W') ∨
      (e = .returned (.bool false) ∧ ∃ c, Ix c xs W' ∧ W'.heap[l]? = some (.loop { r with state := .done, pending := some c }) ∧ W'.heap[D]? = some (.deferred (some [])) ∧ KeepsFrom (l + 1) W W') := by
  refine ⟨r.fn, _, r.assign, r.body, run_yield hl hps, roundIn_of_wpIn hF (hassign _ ?_)⟩
  intro a' W1 hk1 hb1 hi1 hax
  have hl1 := hk1.same _ _ hBl hl rfl
  have hD1 := hk1.same _ _ hBD hD rfl
  refine ⟨_, run_beginRound hl1 hst, ?_⟩
  have hlt : l < W1.heap.size := (Array.getElem?_eq_some_iff.1 hl1).1
  have hS1 : KeepsFrom (l + 1) W (W1.putObj l (.loop { r with state := .busy })) := (keeps_up hk1 (by omega)).trans (keeps_put _ _ _)
  have hN1 : N ≤ (W1.putObj l (.loop { r with state := .busy })).heap.size := by
    have := hk1.size
    simp
    omega
  generalize hW2 : W1.putObj l (.loop { r with state := .busy }) = W2 at hN1 hS1
  have hl2 : W2.heap[l]? = some (.loop { r with state := .busy }) := by rw [← hW2]; exact World.putObj_heap_same hlt
  have hD2 : W2.heap[D]? = some (.deferred (some [])) := by rw [← hW2]; exact (World.putObj_heap_other hDl).trans hD1
  have hi2 : I pre W2 := by rw [← hW2]; exact hI.putObj _ hi1 hBl hl1 rfl
  have hax2 : Ax a' W2 := by rw [← hW2]; exact (hAx a').putObj (s := ()) _ hax hBl hl1 rfl
  have hb2 : KeptOn KK W W2 := by
    rw [← hW2]
    exact hb1.putObj hnl _
  clear hW2
  refine wpIn_mono (hbody a' W2 hN1 hi2 hax2) ?_
  have fin : ∀ (jump : Option Code) (W3 : World), KeepsFrom B W2 W3 →
      (Instr.endRound l jump).run P W3 = .ok (.bool jump.isNone) (W3.putObj l (.loop { r with state := if jump.isNone then .ready else .done, pending := jump })) ∧
      W3.heap[l]? = some (.loop { r with state := .busy }) ∧
      (W3.putObj l (.loop { r with state := if jump.isNone then .ready else .done, pending := jump })).heap[l]? = some (.loop { r with state := if jump.isNone then .ready else .done, pending := jump }) ∧
      (W3.putObj l (.loop { r with state := if jump.isNone then .ready else .done, pending := jump })).heap[D]? = some (.deferred (some [])) := fun jump W3 hk3 => by
    have hl3 := hk3.same _ _ hBl hl2 rfl
    have hrun := run_endRound (P := P) jump hl3
    exact ⟨hrun, hl3, World.putObj_heap_same (Array.getElem?_eq_some_iff.1 hl3).1, (World.putObj_heap_other hDl).trans (hk3.same _ _ hBD hD2 rfl)⟩
  rintro e a3 W3 hp
  cases e with
  | normal =>
    obtain ⟨hk3, hb3, hi3⟩ := hp
    obtain ⟨hr, hl3, hl4, hD4⟩ := fin none W3 hk3
    exact ⟨_, _, hr, .inl ⟨rfl, ⟨hI.putObj _ hi3 hBl hl3 rfl, hl4, hD4⟩, hS1.trans ((keeps_up hk3 (by omega)).trans (keeps_put _ _ _)), (hb2.trans hb3).putObj hnl _⟩⟩
  | ret =>
    obtain ⟨hk3, hi3⟩ := hp
    obtain ⟨hr, hl3, hl4, hD4⟩ := fin (some .ret) W3 hk3
    exact ⟨_, _, hr, .inr ⟨rfl, .ret, (hIx _).putObj _ hi3 hBl hl3 rfl, hl4, hD4, hS1.trans ((keeps_up hk3 (by omega)).trans (keeps_put _ _ _))⟩⟩
  | exit id =>
    obtain ⟨hk3, hi3⟩ := hp
    obtain ⟨hr, hl3, hl4, hD4⟩ := fin (some (.exit id)) W3 hk3
    exact ⟨_, _, hr, .inr ⟨rfl, .exit id, (hIx _).putObj _ hi3 hBl hl3 rfl, hl4, hD4, hS1.trans ((keeps_up hk3 (by omega)).trans (keeps_put _ _ _))⟩⟩
  | goto t =>
    obtain ⟨hk3, hi3⟩ := hp
    obtain ⟨hr, hl3, hl4, hD4⟩ := fin (some (.goto t)) W3 hk3
    exact ⟨_, _, hr, .inr ⟨rfl, .goto t, (hIx _).putObj _ hi3 hBl hl3 rfl, hl4, hD4, hS1.trans ((keeps_up hk3 (by omega)).trans (keeps_put _ _ _))⟩⟩
  | panic ch => exact hp.elim
  | outgrown => exact hp.elim


/-- **THE STATEMENT**, over an iterator with its contract. -/
theorem range_lawW {α : Type} {g : Operand} {ps : Array Tmp} {assign body : Code} {Q : Exit → Act → World → Prop} {a : Act} {w : World}
    (hro : F.round = none) (h1 : 1 ≤ n) {gf : Nat} {lb : Array Value} (hg : a.eval g = .func (.func gf) #[] lb) (hFg : F.fn gf) (eg : ∀ args w, (callFunc gf args).run P w = .ok (.enter gf args) w)
    {encs : α → Array Value} {KK : Nat → Prop} {bi : Option Nat} {wd : Nat} {G : List α → α → Prop} {Fin Stop : List α → Prop} {Pan : List PanicEntry → List α → Prop} {w0 : World} (hseq : SeqW F (n - 1) P gf lb encs KK bi wd G Fin Stop Pan w0)
    (hb0 : Below w0.heap.size w0 w) (hKK : ∀ k, KK k → k < w.heap.size) (hbi : ∀ b, bi = some b → b < w.heap.size) (hps : ∀ x, (encs x).size = ps.size)
    (I : List α → World → Prop) (Ix : Code → List α → World → Prop) (hI : OwnItW bi (w.heap.size + 2) (w.heap.size + 2 + wd) w.heap.size I) (hIx : ∀ c, OwnItW bi (w.heap.size + 2) (w.heap.size + 2 + wd) w.heap.size (Ix c)) (h0 : I [] w)
    (Ax : α → Act → World → Prop) (hAx : ∀ x a', OwnItW bi (w.heap.size + 2) (w.heap.size + 2 + wd) w.heap.size (fun (_ : Unit) W => Ax x a' W))
    (hassign : ∀ (l : Nat) (pre : List α) (x : α) (W : World) (K : Act → World → Prop), w.heap.size + 2 + wd ≤ W.heap.size → I pre W → (∀ a' W', KeepsFrom w.heap.size W W' → KeptOn (fun k => KK k ∨ (w.heap.size + 2 ≤ k ∧ k < w.heap.size + 2 + wd)) W W' → I pre W' → Ax x a' W' → K a' W') →
      assign.wpIn (F.inRound l) (n - 1 - 1) P (Exit.then K (fun _ _ _ => False)) { tmps := (ps.zip (encs x)).foldl (fun t (p, v) => t.setIfInBounds p v) a.tmps, defers := [] } W)
    (hbody : ∀ (l : Nat) (pre : List α) (x : α) (a' : Act) (W : World), w.heap.size + 2 + wd ≤ W.heap.size → I pre W → Ax x a' W → G pre x → body.wpIn (F.inRound l) (n - 1 - 1) P (roundEnd w.heap.size (fun k => KK k ∨ (w.heap.size + 2 ≤ k ∧ k < w.heap.size + 2 + wd)) I Ix (pre ++ [x]) W) a' W)
    (hdone : ∀ (D : Nat) (xs : List α) (W : World), w.heap.size ≤ D → Fin xs → I xs W → W.heap[D]? = some (.deferred (some [])) → Q .normal (marked a D) W)
    (hstop : ∀ (D : Nat) (c : Code) (pre : List α) (W : World), w.heap.size ≤ D → Stop pre → Ix c pre W → W.heap[D]? = some (.deferred (some [])) → c.wpIn F n P Q (marked a D) W)
    (hpanic : ∀ (D : Nat) (ch : List PanicEntry) (xs : List α) (W : World), w.heap.size ≤ D → Pan ch xs → I xs W → W.heap[D]? = some (.deferred (some [])) → Q (.panic ch) (marked a D) W) :
    (Code.rangeFunc g ps assign body).wpIn F n P Q a w := by
  refine wpIn_rangeFunc ?_
  intro fn hfn
  rw [hro]
  obtain ⟨L, hL⟩ : ∃ L : Loop, L = { state := .ready, pending := none, fn, tmps := a.tmps, params := ps, assign, body, defers := w.heap.size } := ⟨_, rfl⟩
  obtain ⟨W1, hW1⟩ : ∃ W1, (w.alloc (.deferred (some []))).alloc (.loop L) = W1 := ⟨_, rfl⟩
  have hs1 : W1.heap.size = w.heap.size + 2 := by rw [← hW1]; simp
  have hL1 : W1.heap[w.heap.size + 1]? = some (.loop L) := by
    rw [← hW1]; have := World.alloc_heap_new (w.alloc (.deferred (some []))) (.loop L); rwa [World.size_alloc] at this
  have hK1 : W1.heap[w.heap.size]? = some (.deferred (some [])) := by
    rw [← hW1]; exact (Below.heap_alloc _ _ _ (by simp)).trans (World.alloc_heap_new w _)
  have hI1 : I [] W1 := by rw [← hW1]; exact hI.alloc _ (hI.alloc _ h0)
  have hb1 : Below w0.heap.size w0 W1 := by
    rw [← hW1]; exact hb0.trans ((((Below.refl _ w).alloc (Nat.le_refl _) _).alloc (by simp) _).mono hb0.size)
  refine ⟨w.heap.size + 1, [{ target := .collected w.heap.size, args := #[] }], W1, { target := .fn (.func gf) lb, args := #[.func (.yield (w.heap.size + 1)) #[] #[]] }, W1, gf,
    #[.func (.yield (w.heap.size + 1)) #[] #[]] ++ lb, W1, ?_, ?_, ?_, ?_, fun _ => h1, ?_⟩
  · rw [← hW1, hL]; exact run_enterLoop_outer _ _ _ _ _
  · simp only [resolve, hg]
    simp [go_sem]
  · intro f' hf'; simp [Target.leads] at hf'; subst hf'; exact hFg
  · simp [invoke, go_sem, eg]
  · have hkeep : ∀ {A A' : World} {row : Option Nat} {k : Nat} {o : Obj}, A.grownBy A' row → ItRowW bi W1.heap.size (W1.heap.size + wd) W1.heap.size A row → A.heap[k]? = some o → o.isCells = false → k < w.heap.size + 2 → w.heap.size ≤ k → A'.heap[k]? = some o := by
      intro A A' row k o hg' hr hk ho hk2 hk3
      refine (hg'.block k (Array.getElem?_eq_some_iff.1 hk).1 (fun e => ?_)).trans hk
      rcases hr k e.symm with e2 | ⟨h2, _⟩ | ⟨h2, _⟩
      · have := hbi k e2.symm; omega
      · omega
      · omega
    have hlow : ∀ {A : World} {row : Option Nat}, ItRowW bi W1.heap.size (W1.heap.size + wd) W1.heap.size A row → ItRowW bi (w.heap.size + 2) (w.heap.size + 2 + wd) w.heap.size A row :=
      fun hr r e => (hr r e).imp id (Or.imp (fun ⟨h2, h3⟩ => ⟨by omega, by omega⟩) (fun ⟨h2, h3⟩ => ⟨by omega, h3⟩))
    refine (hseq (w.heap.size + 1)
      (fun pre W => I pre W ∧ W.heap[w.heap.size + 1]? = some (.loop L) ∧ W.heap[w.heap.size]? = some (.deferred (some [])))
      (fun pre W => ∃ c, Ix c pre W ∧ W.heap[w.heap.size + 1]? = some (.loop { L with state := .done, pending := some c }) ∧ W.heap[w.heap.size]? = some (.deferred (some [])))
      W1 hb1
      (fun s A A' row hs hg' hr => ⟨hI s A A' row hs.1 hg' (hlow hr), hkeep hg' hr hs.2.1 rfl (by omega) (by omega), hkeep hg' hr hs.2.2 rfl (by omega) (by omega)⟩)
      (fun s A A' row hs hg' hr => by
        obtain ⟨c, hc, hl, hk⟩ := hs
        exact ⟨c, hIx c s A A' row hc hg' (hlow hr), hkeep hg' hr hl rfl (by omega) (by omega), hkeep hg' hr hk rfl (by omega) (by omega)⟩)
      ?_ ⟨hI1, hL1, hK1⟩).mono ?_
    · rintro pre x W hWN ⟨hi, hl, hk⟩ hG
      have hr := round_lawW (F := F) (P := P) (m := n - 1 - 1) (args := encs x) (B := w.heap.size) (lo := w.heap.size + 2) (hi := w.heap.size + 2 + wd) (N := w.heap.size + 2 + wd) (KK := fun k => KK k ∨ (w.heap.size + 2 ≤ k ∧ k < w.heap.size + 2 + wd)) (Ax := Ax x) (pre := pre) (xs := pre ++ [x]) (I := I) (Ix := Ix) (bi := bi)
        hl hk (by rw [hL]) (by rw [hL]; exact hps x) (by rw [hL]; exact hfn) (by omega) (by omega) (fun h => by rcases h with h | h; have := hKK _ h; omega; omega) (by omega) (by omega) hI hIx (hAx x)
        (by rw [hL]; exact fun K hK => hassign _ pre x W K (by omega) hi hK) (by rw [hL]; exact fun a' W' hN' h2 h3 => hbody _ pre x a' W' hN' h2 h3 hG)
      rw [show ({ L with state := .ready, pending := none } : Loop) = L by rw [hL]] at hr
      rw [hs1]
      refine hr.mono ?_
      rintro e W' (h | ⟨he, c, h1, h2, h3, h4⟩)
      · exact .inl h
      · exact .inr ⟨he, ⟨c, h1, h2, h3⟩, h4⟩
    · rintro e W2 (⟨v, rfl, (⟨xs, hS, hi, hl, hk⟩ | ⟨pre, hSp, c, hi, hl, hk⟩)⟩ | ⟨ch, xs, rfl, hP, hi, hl, hk⟩)
      · exact ⟨none, _, by have := run_endLoop (P := P) hl (by rw [hL]; simp); rw [hL] at this; exact this, hdone _ xs _ (Nat.le_refl _) hS (hI.putObj _ hi (by omega) hl rfl) ((World.putObj_heap_other (by omega)).trans hk)⟩
      · exact ⟨some c, _, by have := run_endLoop (P := P) hl (by simp); exact this, hstop _ c pre _ (Nat.le_refl _) hSp ((hIx c).putObj _ hi (by omega) hl rfl) ((World.putObj_heap_other (by omega)).trans hk)⟩
      · exact hpanic _ ch xs W2 (Nat.le_refl _) hP hi hk
end Go.Proofs.Ytdjmhagclcfnfaa
